/-
  No cell of these rows narrows 'for every input' (looked for: loops, veiled, ifaces, maps, wideKeys, modest, calm, conditions, laid).
  DERIVED. THE GIVEN ROWS OF THIS SEAT. 5 by the template 'for every input the law returns true; each argument reads behind the call as it read before'; 0 by the template 'total and deterministic' (their statements: YtboonfbbnidmbaaTotals.lean).
  GIVEN WITH THE SEED: the statements are not yours to turn. If you find one false, say at which input.
  Laid BY PROGRAM, IN A SANDBOX (cutbox-rows.mjs): the forced cells as the released guide's own fill.sh prints them over the translation ce346427e093116f… (all of the seat's roots in one cut). By AI agents, Wed Nov 11 2026. No macro, syntax, notation, axiom, sorry.
-/
import Derived.Test.YtboonfbbnidmbaaChecked
import GoSem.Claim
import GoSem.ClaimJoined
import GoSem.ClaimMapViews
import Derived.JoinedTies
import Derived.KernelRfl
namespace Go.Proofs.Ytboonfbbnidmbaa
/- THE CELL 'sum', in the pinned program and in every row, IS THE sha256 OF THE DUMP (.gsa) THAT YtboonfbbnidmbaaProg.lean LOADS. Nothing in Lean hashes anything: it is a label: what it is worth is what the hold of that sum in a sandbox is worth. -/
noncomputable def Try.pinned : Pinned := { name := "ytboonfbbnidmbaa", sum := "ce346427e093116f3d84cc191179ae2803c94a24f5889841ab0588f9cac66bb3", checked := Try.checked }
namespace Rows
def none {H : Type} : Left H := { results := [], args := [] }

/-- 'leveelaw16.VoteTells': WHATEVER THE INPUT: true; the input reads as it did. -/
def voteTellsSpec : ChangeSpec := { name := "voteTells", fn := fun _ => fun
  | [d1, d2, d3, d4, d5] => { results := [.lit (.bool true)], args := [d1, d2, d3, d4, d5] }
  | _ => none }
def voteTellsRow : OpenClaim := { program := "ytboonfbbnidmbaa", sum := "ce346427e093116f3d84cc191179ae2803c94a24f5889841ab0588f9cac66bb3", func := "levee/leveelaw16.VoteTells", spec := "voteTells", plainKeys := false, apart := false }
def VoteTellsSaid : Prop := voteTellsRow.holds Try.pinned (OpenSpec.ofChange voteTellsSpec)

/-- ITS FALSE NEIGHBOUR: 'it returns false'. Refute it at one input. -/
def voteTellsWrong : ChangeSpec := { name := "voteTells", fn := fun _ => fun
  | [d1, d2, d3, d4, d5] => { results := [.lit (.bool false)], args := [d1, d2, d3, d4, d5] }
  | _ => none }
def VoteTellsWrongFalsely : Prop := voteTellsRow.holds Try.pinned (OpenSpec.ofChange voteTellsWrong)

/-- 'leveelaw16.VotePromises': WHATEVER THE INPUT: true; the input reads as it did. -/
def votePromisesSpec : ChangeSpec := { name := "votePromises", fn := fun _ => fun
  | [d] => { results := [.lit (.bool true)], args := [d] }
  | _ => none }
def votePromisesRow : OpenClaim := { program := "ytboonfbbnidmbaa", sum := "ce346427e093116f3d84cc191179ae2803c94a24f5889841ab0588f9cac66bb3", func := "levee/leveelaw16.VotePromises", spec := "votePromises", plainKeys := false, apart := false }
def VotePromisesSaid : Prop := votePromisesRow.holds Try.pinned (OpenSpec.ofChange votePromisesSpec)

/-- ITS FALSE NEIGHBOUR: 'it returns false'. Refute it at one input. -/
def votePromisesWrong : ChangeSpec := { name := "votePromises", fn := fun _ => fun
  | [d] => { results := [.lit (.bool false)], args := [d] }
  | _ => none }
def VotePromisesWrongFalsely : Prop := votePromisesRow.holds Try.pinned (OpenSpec.ofChange votePromisesWrong)

/-- 'leveelaw16.VoteOne': WHATEVER THE INPUT: true; the input reads as it did. -/
def voteOneSpec : ChangeSpec := { name := "voteOne", fn := fun _ => fun
  | [d1, d2] => { results := [.lit (.bool true)], args := [d1, d2] }
  | _ => none }
def voteOneRow : OpenClaim := { program := "ytboonfbbnidmbaa", sum := "ce346427e093116f3d84cc191179ae2803c94a24f5889841ab0588f9cac66bb3", func := "levee/leveelaw16.VoteOne", spec := "voteOne", plainKeys := false, apart := false }
def VoteOneSaid : Prop := voteOneRow.holds Try.pinned (OpenSpec.ofChange voteOneSpec)

/-- ITS FALSE NEIGHBOUR: 'it returns false'. Refute it at one input. -/
def voteOneWrong : ChangeSpec := { name := "voteOne", fn := fun _ => fun
  | [d1, d2] => { results := [.lit (.bool false)], args := [d1, d2] }
  | _ => none }
def VoteOneWrongFalsely : Prop := voteOneRow.holds Try.pinned (OpenSpec.ofChange voteOneWrong)

/-- 'leveelaw16.VoteMeet': WHATEVER THE INPUT: true; the input reads as it did. -/
def voteMeetSpec : ChangeSpec := { name := "voteMeet", fn := fun _ => fun
  | [d1, d2, d3, d4, d5, d6, d7] => { results := [.lit (.bool true)], args := [d1, d2, d3, d4, d5, d6, d7] }
  | _ => none }
def voteMeetRow : OpenClaim := { program := "ytboonfbbnidmbaa", sum := "ce346427e093116f3d84cc191179ae2803c94a24f5889841ab0588f9cac66bb3", func := "levee/leveelaw16.VoteMeet", spec := "voteMeet", plainKeys := false, apart := false }
def VoteMeetSaid : Prop := voteMeetRow.holds Try.pinned (OpenSpec.ofChange voteMeetSpec)

/-- ITS FALSE NEIGHBOUR: 'it returns false'. Refute it at one input. -/
def voteMeetWrong : ChangeSpec := { name := "voteMeet", fn := fun _ => fun
  | [d1, d2, d3, d4, d5, d6, d7] => { results := [.lit (.bool false)], args := [d1, d2, d3, d4, d5, d6, d7] }
  | _ => none }
def VoteMeetWrongFalsely : Prop := voteMeetRow.holds Try.pinned (OpenSpec.ofChange voteMeetWrong)

/-- 'leveelaw16.VoteLearns': WHATEVER THE INPUT: true; the input reads as it did. -/
def voteLearnsSpec : ChangeSpec := { name := "voteLearns", fn := fun _ => fun
  | [d1, d2, d3, d4] => { results := [.lit (.bool true)], args := [d1, d2, d3, d4] }
  | _ => none }
def voteLearnsRow : OpenClaim := { program := "ytboonfbbnidmbaa", sum := "ce346427e093116f3d84cc191179ae2803c94a24f5889841ab0588f9cac66bb3", func := "levee/leveelaw16.VoteLearns", spec := "voteLearns", plainKeys := false, apart := false }
def VoteLearnsSaid : Prop := voteLearnsRow.holds Try.pinned (OpenSpec.ofChange voteLearnsSpec)

/-- ITS FALSE NEIGHBOUR: 'it returns false'. Refute it at one input. -/
def voteLearnsWrong : ChangeSpec := { name := "voteLearns", fn := fun _ => fun
  | [d1, d2, d3, d4] => { results := [.lit (.bool false)], args := [d1, d2, d3, d4] }
  | _ => none }
def VoteLearnsWrongFalsely : Prop := voteLearnsRow.holds Try.pinned (OpenSpec.ofChange voteLearnsWrong)

/- THE SECOND FORM. 'bulk': how many values and letters a reading holds, each counted each time it is reached (what is shared counts as often as it is met; a slice's spare places count too). A statement '..UptoSaid' is the law's where the arguments, and the package variables that the reading takes, are together of bulk at most 1048576: NARROWER than '..Said'. Prove '..Said' where nothing that the law and all that it calls make is longer than what came in: it says more and counts as full. Else prove '..UptoSaid'. A law counts once. -/
mutual
def uptoBulk {H : Type} : DataW H → Nat
  | .lit (.string bytes) => bytes.length + 1
  | .lit _ => 1
  | .nil => 1
  | .ptr d => uptoBulk d + 1
  | .slice elems spare => uptoBulkAll elems + uptoBulkAll spare + 1
  | .agg parts => uptoBulkAll parts + 1
  | .iface _ d => uptoBulk d + 1
  | .map entries => uptoBulkEntries entries + 1
  | .held _ => 1
def uptoBulkAll {H : Type} : List (DataW H) → Nat
  | [] => 0
  | d :: r => uptoBulk d + uptoBulkAll r
def uptoBulkEntries {H : Type} : List (Lit × DataW H) → Nat
  | [] => 0
  | x :: r => uptoBulkEntry x + uptoBulkEntries r
def uptoBulkEntry {H : Type} : Lit × DataW H → Nat
  | (.string bytes, d) => bytes.length + uptoBulk d + 1
  | (_, d) => uptoBulk d + 1
 end
def uptoSmall : (H : Type) → List (DataW H) → Bool := fun _ ds => decide (uptoBulkAll ds ≤ 1048576)
def OpenSpec.upto (s : _root_.Go.ChangeSpec) : _root_.Go.OpenSpec := { _root_.Go.OpenSpec.ofChange s with cond := some uptoSmall }

/-- 'leveelaw16.VoteTells', WHERE WHAT IT READS IS OF BULK AT MOST 1048576: true; the input reads as it did. -/
def voteTellsUptoRow : OpenClaim := { program := "ytboonfbbnidmbaa", sum := "ce346427e093116f3d84cc191179ae2803c94a24f5889841ab0588f9cac66bb3", func := "levee/leveelaw16.VoteTells", spec := "voteTells", plainKeys := false, apart := false, narrowed := true }
def VoteTellsUptoSaid : Prop := voteTellsUptoRow.holds Try.pinned (OpenSpec.upto voteTellsSpec)

/-- 'leveelaw16.VotePromises', WHERE WHAT IT READS IS OF BULK AT MOST 1048576: true; the input reads as it did. -/
def votePromisesUptoRow : OpenClaim := { program := "ytboonfbbnidmbaa", sum := "ce346427e093116f3d84cc191179ae2803c94a24f5889841ab0588f9cac66bb3", func := "levee/leveelaw16.VotePromises", spec := "votePromises", plainKeys := false, apart := false, narrowed := true }
def VotePromisesUptoSaid : Prop := votePromisesUptoRow.holds Try.pinned (OpenSpec.upto votePromisesSpec)

/-- 'leveelaw16.VoteOne', WHERE WHAT IT READS IS OF BULK AT MOST 1048576: true; the input reads as it did. -/
def voteOneUptoRow : OpenClaim := { program := "ytboonfbbnidmbaa", sum := "ce346427e093116f3d84cc191179ae2803c94a24f5889841ab0588f9cac66bb3", func := "levee/leveelaw16.VoteOne", spec := "voteOne", plainKeys := false, apart := false, narrowed := true }
def VoteOneUptoSaid : Prop := voteOneUptoRow.holds Try.pinned (OpenSpec.upto voteOneSpec)

/-- 'leveelaw16.VoteMeet', WHERE WHAT IT READS IS OF BULK AT MOST 1048576: true; the input reads as it did. -/
def voteMeetUptoRow : OpenClaim := { program := "ytboonfbbnidmbaa", sum := "ce346427e093116f3d84cc191179ae2803c94a24f5889841ab0588f9cac66bb3", func := "levee/leveelaw16.VoteMeet", spec := "voteMeet", plainKeys := false, apart := false, narrowed := true }
def VoteMeetUptoSaid : Prop := voteMeetUptoRow.holds Try.pinned (OpenSpec.upto voteMeetSpec)

/-- 'leveelaw16.VoteLearns', WHERE WHAT IT READS IS OF BULK AT MOST 1048576: true; the input reads as it did. -/
def voteLearnsUptoRow : OpenClaim := { program := "ytboonfbbnidmbaa", sum := "ce346427e093116f3d84cc191179ae2803c94a24f5889841ab0588f9cac66bb3", func := "levee/leveelaw16.VoteLearns", spec := "voteLearns", plainKeys := false, apart := false, narrowed := true }
def VoteLearnsUptoSaid : Prop := voteLearnsUptoRow.holds Try.pinned (OpenSpec.upto voteLearnsSpec)

end Rows
end Go.Proofs.Ytboonfbbnidmbaa
