/-
  No cell of these rows narrows 'for every input' (looked for: loops, veiled, ifaces, maps, wideKeys, modest, calm, conditions, laid).
  DERIVED. THE GIVEN ROWS OF THIS SEAT. 6 by the template 'for every input the law returns true; each argument reads behind the call as it read before'; 0 by the template 'total and deterministic' (their statements: YtlihcjlonafohaaGreatTotals.lean).
  GIVEN WITH THE SEED: the statements are not yours to turn. If you find one false, say at which input.
  Laid BY PROGRAM, IN A SANDBOX (cutbox-rows.mjs): the forced cells as the released guide's own fill.sh prints them over the translation d5a19c8d822576bf… (all of the seat's roots in one cut). By AI agents, Wed Nov 11 2026. No macro, syntax, notation, axiom, sorry.
-/
import Derived.Test.YtlihcjlonafohaaGreatChecked
import GoSem.Claim
import GoSem.ClaimJoined
import GoSem.ClaimMapViews
import Derived.JoinedTies
import Derived.KernelRfl
namespace Go.Proofs.YtlihcjlonafohaaGreat
/- THE CELL 'sum', in the pinned program and in every row, IS THE sha256 OF THE DUMP (.gsa) THAT YtlihcjlonafohaaGreatProg.lean LOADS. Nothing in Lean hashes anything: it is a label: what it is worth is what the hold of that sum in a sandbox is worth. -/
noncomputable def Tryz.pinned : Pinned := { name := "ytlihcjlonafohaagreat", sum := "d5a19c8d822576bf1f950113f39d77225cfd4491a14882ab71eb33660244d7fe", checked := Tryz.checked }
namespace Rows
def none {H : Type} : Left H := { results := [], args := [] }

/-- 'leveelaw11.FoldSame': WHATEVER THE INPUT: true; the input reads as it did. -/
def foldSameSpec : ChangeSpec := { name := "foldSame", fn := fun _ => fun
  | [d1, d2, d3, d4, d5] => { results := [.lit (.bool true)], args := [d1, d2, d3, d4, d5] }
  | _ => none }
def foldSameRow : OpenClaim := { program := "ytlihcjlonafohaagreat", sum := "d5a19c8d822576bf1f950113f39d77225cfd4491a14882ab71eb33660244d7fe", func := "levee/leveelaw11.FoldSame", spec := "foldSame", inPlace := ["slices.overlaps[levee/api.Tag]", "slices.overlaps[string]"], unfollowed := true, recurses := true, apart := false }
def FoldSameSaid : Prop := foldSameRow.holds Tryz.pinned (OpenSpec.ofChange foldSameSpec)

/-- ITS FALSE NEIGHBOUR: 'it returns false'. Refute it at one input. -/
def foldSameWrong : ChangeSpec := { name := "foldSame", fn := fun _ => fun
  | [d1, d2, d3, d4, d5] => { results := [.lit (.bool false)], args := [d1, d2, d3, d4, d5] }
  | _ => none }
def FoldSameWrongFalsely : Prop := foldSameRow.holds Tryz.pinned (OpenSpec.ofChange foldSameWrong)

/-- 'leveelaw12.BaseFull': WHATEVER THE INPUT: true; the input reads as it did. -/
def baseFullSpec : ChangeSpec := { name := "baseFull", fn := fun _ => fun
  | [d1, d2] => { results := [.lit (.bool true)], args := [d1, d2] }
  | _ => none }
def baseFullRow : OpenClaim := { program := "ytlihcjlonafohaagreat", sum := "d5a19c8d822576bf1f950113f39d77225cfd4491a14882ab71eb33660244d7fe", func := "levee/leveelaw12.BaseFull", spec := "baseFull", inPlace := ["slices.overlaps[levee/api.Tag]", "slices.overlaps[string]"], unfollowed := true, recurses := true, apart := false }
def BaseFullSaid : Prop := baseFullRow.holds Tryz.pinned (OpenSpec.ofChange baseFullSpec)

/-- ITS FALSE NEIGHBOUR: 'it returns false'. Refute it at one input. -/
def baseFullWrong : ChangeSpec := { name := "baseFull", fn := fun _ => fun
  | [d1, d2] => { results := [.lit (.bool false)], args := [d1, d2] }
  | _ => none }
def BaseFullWrongFalsely : Prop := baseFullRow.holds Tryz.pinned (OpenSpec.ofChange baseFullWrong)

/-- 'leveelaw12.BaseSame': WHATEVER THE INPUT: true; the input reads as it did. -/
def baseSameSpec : ChangeSpec := { name := "baseSame", fn := fun _ => fun
  | [d1, d2, d3, d4, d5] => { results := [.lit (.bool true)], args := [d1, d2, d3, d4, d5] }
  | _ => none }
def baseSameRow : OpenClaim := { program := "ytlihcjlonafohaagreat", sum := "d5a19c8d822576bf1f950113f39d77225cfd4491a14882ab71eb33660244d7fe", func := "levee/leveelaw12.BaseSame", spec := "baseSame", inPlace := ["slices.overlaps[levee/api.Tag]", "slices.overlaps[string]"], unfollowed := true, recurses := true, apart := false }
def BaseSameSaid : Prop := baseSameRow.holds Tryz.pinned (OpenSpec.ofChange baseSameSpec)

/-- ITS FALSE NEIGHBOUR: 'it returns false'. Refute it at one input. -/
def baseSameWrong : ChangeSpec := { name := "baseSame", fn := fun _ => fun
  | [d1, d2, d3, d4, d5] => { results := [.lit (.bool false)], args := [d1, d2, d3, d4, d5] }
  | _ => none }
def BaseSameWrongFalsely : Prop := baseSameRow.holds Tryz.pinned (OpenSpec.ofChange baseSameWrong)

/-- 'leveelaw12.BaseAgain': WHATEVER THE INPUT: true; the input reads as it did. -/
def baseAgainSpec : ChangeSpec := { name := "baseAgain", fn := fun _ => fun
  | [d1, d2, d3, d4] => { results := [.lit (.bool true)], args := [d1, d2, d3, d4] }
  | _ => none }
def baseAgainRow : OpenClaim := { program := "ytlihcjlonafohaagreat", sum := "d5a19c8d822576bf1f950113f39d77225cfd4491a14882ab71eb33660244d7fe", func := "levee/leveelaw12.BaseAgain", spec := "baseAgain", inPlace := ["slices.overlaps[levee/api.Tag]", "slices.overlaps[string]"], unfollowed := true, recurses := true, apart := false }
def BaseAgainSaid : Prop := baseAgainRow.holds Tryz.pinned (OpenSpec.ofChange baseAgainSpec)

/-- ITS FALSE NEIGHBOUR: 'it returns false'. Refute it at one input. -/
def baseAgainWrong : ChangeSpec := { name := "baseAgain", fn := fun _ => fun
  | [d1, d2, d3, d4] => { results := [.lit (.bool false)], args := [d1, d2, d3, d4] }
  | _ => none }
def BaseAgainWrongFalsely : Prop := baseAgainRow.holds Tryz.pinned (OpenSpec.ofChange baseAgainWrong)

/-- 'leveelaw12.BaseViews': WHATEVER THE INPUT: true; the input reads as it did. -/
def baseViewsSpec : ChangeSpec := { name := "baseViews", fn := fun _ => fun
  | [d1, d2, d3, d4] => { results := [.lit (.bool true)], args := [d1, d2, d3, d4] }
  | _ => none }
def baseViewsRow : OpenClaim := { program := "ytlihcjlonafohaagreat", sum := "d5a19c8d822576bf1f950113f39d77225cfd4491a14882ab71eb33660244d7fe", func := "levee/leveelaw12.BaseViews", spec := "baseViews", inPlace := ["slices.overlaps[levee/api.Tag]", "slices.overlaps[string]", "sync/atomic.LoadInt64", "sync/atomic.AddInt64", "sync/atomic.LoadUint32", "(*internal/sync.Mutex).Lock", "internal/race.Disable", "sync/atomic.CompareAndSwapInt32", "internal/race.Enable", "internal/race.Acquire", "(*internal/sync.Mutex).lockSlow", "internal/sync.runtime_canSpin", "internal/sync.runtime_doSpin", "internal/sync.throw", "internal/sync.runtime_nanotime", "internal/sync.runtime_SemacquireMutex", "sync/atomic.AddInt32", "(*internal/sync.Mutex).Unlock", "internal/race.ReleaseMerge", "(*internal/sync.Mutex).unlockSlow", "internal/sync.fatal", "internal/sync.runtime_Semrelease", "sync/atomic.StoreUint32"], unfollowed := true, recurses := true, apart := false }
def BaseViewsSaid : Prop := baseViewsRow.holds Tryz.pinned (OpenSpec.ofChange baseViewsSpec)

/-- ITS FALSE NEIGHBOUR: 'it returns false'. Refute it at one input. -/
def baseViewsWrong : ChangeSpec := { name := "baseViews", fn := fun _ => fun
  | [d1, d2, d3, d4] => { results := [.lit (.bool false)], args := [d1, d2, d3, d4] }
  | _ => none }
def BaseViewsWrongFalsely : Prop := baseViewsRow.holds Tryz.pinned (OpenSpec.ofChange baseViewsWrong)

/-- 'leveelaw12.BaseSizes': WHATEVER THE INPUT: true; the input reads as it did. -/
def baseSizesSpec : ChangeSpec := { name := "baseSizes", fn := fun _ => fun
  | [d1, d2, d3, d4] => { results := [.lit (.bool true)], args := [d1, d2, d3, d4] }
  | _ => none }
def baseSizesRow : OpenClaim := { program := "ytlihcjlonafohaagreat", sum := "d5a19c8d822576bf1f950113f39d77225cfd4491a14882ab71eb33660244d7fe", func := "levee/leveelaw12.BaseSizes", spec := "baseSizes", inPlace := ["slices.overlaps[levee/api.Tag]", "slices.overlaps[string]"], unfollowed := true, recurses := true, apart := false }
def BaseSizesSaid : Prop := baseSizesRow.holds Tryz.pinned (OpenSpec.ofChange baseSizesSpec)

/-- ITS FALSE NEIGHBOUR: 'it returns false'. Refute it at one input. -/
def baseSizesWrong : ChangeSpec := { name := "baseSizes", fn := fun _ => fun
  | [d1, d2, d3, d4] => { results := [.lit (.bool false)], args := [d1, d2, d3, d4] }
  | _ => none }
def BaseSizesWrongFalsely : Prop := baseSizesRow.holds Tryz.pinned (OpenSpec.ofChange baseSizesWrong)

/- THE SECOND FORM. 'bulk': how many values and letters a reading holds, each counted each time it is reached (what is shared counts as often as it is met; a slice's spare places count too). A statement '..UptoSaid' is the law's where the arguments, and the package variables that the reading takes, are together of bulk at most 1048576: NARROWER than '..Said'. Prove '..Said' where nothing that the law and all that it calls make is longer than what came in: it says more and counts as full. Else prove '..UptoSaid'. A law counts once. -/
mutual
def uptoBulk {H : Type} : DataW H → Nat
  | .lit (.string bytes) => bytes.length + 1
  | .lit _ => 1
  | .nil => 1
  | .ptr d => uptoBulk d + 1
  | .slice elems spare => uptoBulkAll elems + uptoBulkAll spare + 1
  | .agg parts => uptoBulkAll parts + 1
  | .iface _ d => uptoBulk d + 1
  | .map entries => uptoBulkEntries entries + 1
  | .held _ => 1
def uptoBulkAll {H : Type} : List (DataW H) → Nat
  | [] => 0
  | d :: r => uptoBulk d + uptoBulkAll r
def uptoBulkEntries {H : Type} : List (Lit × DataW H) → Nat
  | [] => 0
  | x :: r => uptoBulkEntry x + uptoBulkEntries r
def uptoBulkEntry {H : Type} : Lit × DataW H → Nat
  | (.string bytes, d) => bytes.length + uptoBulk d + 1
  | (_, d) => uptoBulk d + 1
 end
def uptoSmall : (H : Type) → List (DataW H) → Bool := fun _ ds => decide (uptoBulkAll ds ≤ 1048576)
def OpenSpec.upto (s : _root_.Go.ChangeSpec) : _root_.Go.OpenSpec := { _root_.Go.OpenSpec.ofChange s with cond := some uptoSmall }

/-- 'leveelaw11.FoldSame', WHERE WHAT IT READS IS OF BULK AT MOST 1048576: true; the input reads as it did. -/
def foldSameUptoRow : OpenClaim := { program := "ytlihcjlonafohaagreat", sum := "d5a19c8d822576bf1f950113f39d77225cfd4491a14882ab71eb33660244d7fe", func := "levee/leveelaw11.FoldSame", spec := "foldSame", inPlace := ["slices.overlaps[levee/api.Tag]", "slices.overlaps[string]"], unfollowed := true, recurses := true, apart := false, narrowed := true }
def FoldSameUptoSaid : Prop := foldSameUptoRow.holds Tryz.pinned (OpenSpec.upto foldSameSpec)

/-- 'leveelaw12.BaseFull', WHERE WHAT IT READS IS OF BULK AT MOST 1048576: true; the input reads as it did. -/
def baseFullUptoRow : OpenClaim := { program := "ytlihcjlonafohaagreat", sum := "d5a19c8d822576bf1f950113f39d77225cfd4491a14882ab71eb33660244d7fe", func := "levee/leveelaw12.BaseFull", spec := "baseFull", inPlace := ["slices.overlaps[levee/api.Tag]", "slices.overlaps[string]"], unfollowed := true, recurses := true, apart := false, narrowed := true }
def BaseFullUptoSaid : Prop := baseFullUptoRow.holds Tryz.pinned (OpenSpec.upto baseFullSpec)

/-- 'leveelaw12.BaseSame', WHERE WHAT IT READS IS OF BULK AT MOST 1048576: true; the input reads as it did. -/
def baseSameUptoRow : OpenClaim := { program := "ytlihcjlonafohaagreat", sum := "d5a19c8d822576bf1f950113f39d77225cfd4491a14882ab71eb33660244d7fe", func := "levee/leveelaw12.BaseSame", spec := "baseSame", inPlace := ["slices.overlaps[levee/api.Tag]", "slices.overlaps[string]"], unfollowed := true, recurses := true, apart := false, narrowed := true }
def BaseSameUptoSaid : Prop := baseSameUptoRow.holds Tryz.pinned (OpenSpec.upto baseSameSpec)

/-- 'leveelaw12.BaseAgain', WHERE WHAT IT READS IS OF BULK AT MOST 1048576: true; the input reads as it did. -/
def baseAgainUptoRow : OpenClaim := { program := "ytlihcjlonafohaagreat", sum := "d5a19c8d822576bf1f950113f39d77225cfd4491a14882ab71eb33660244d7fe", func := "levee/leveelaw12.BaseAgain", spec := "baseAgain", inPlace := ["slices.overlaps[levee/api.Tag]", "slices.overlaps[string]"], unfollowed := true, recurses := true, apart := false, narrowed := true }
def BaseAgainUptoSaid : Prop := baseAgainUptoRow.holds Tryz.pinned (OpenSpec.upto baseAgainSpec)

/-- 'leveelaw12.BaseViews', WHERE WHAT IT READS IS OF BULK AT MOST 1048576: true; the input reads as it did. -/
def baseViewsUptoRow : OpenClaim := { program := "ytlihcjlonafohaagreat", sum := "d5a19c8d822576bf1f950113f39d77225cfd4491a14882ab71eb33660244d7fe", func := "levee/leveelaw12.BaseViews", spec := "baseViews", inPlace := ["slices.overlaps[levee/api.Tag]", "slices.overlaps[string]", "sync/atomic.LoadInt64", "sync/atomic.AddInt64", "sync/atomic.LoadUint32", "(*internal/sync.Mutex).Lock", "internal/race.Disable", "sync/atomic.CompareAndSwapInt32", "internal/race.Enable", "internal/race.Acquire", "(*internal/sync.Mutex).lockSlow", "internal/sync.runtime_canSpin", "internal/sync.runtime_doSpin", "internal/sync.throw", "internal/sync.runtime_nanotime", "internal/sync.runtime_SemacquireMutex", "sync/atomic.AddInt32", "(*internal/sync.Mutex).Unlock", "internal/race.ReleaseMerge", "(*internal/sync.Mutex).unlockSlow", "internal/sync.fatal", "internal/sync.runtime_Semrelease", "sync/atomic.StoreUint32"], unfollowed := true, recurses := true, apart := false, narrowed := true }
def BaseViewsUptoSaid : Prop := baseViewsUptoRow.holds Tryz.pinned (OpenSpec.upto baseViewsSpec)

/-- 'leveelaw12.BaseSizes', WHERE WHAT IT READS IS OF BULK AT MOST 1048576: true; the input reads as it did. -/
def baseSizesUptoRow : OpenClaim := { program := "ytlihcjlonafohaagreat", sum := "d5a19c8d822576bf1f950113f39d77225cfd4491a14882ab71eb33660244d7fe", func := "levee/leveelaw12.BaseSizes", spec := "baseSizes", inPlace := ["slices.overlaps[levee/api.Tag]", "slices.overlaps[string]"], unfollowed := true, recurses := true, apart := false, narrowed := true }
def BaseSizesUptoSaid : Prop := baseSizesUptoRow.holds Tryz.pinned (OpenSpec.upto baseSizesSpec)

end Rows
end Go.Proofs.YtlihcjlonafohaaGreat
