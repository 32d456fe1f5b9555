/-
  No cell of these rows narrows 'for every input' (looked for: loops, veiled, ifaces, maps, wideKeys, modest, calm, conditions, laid).
  DERIVED. THE GIVEN ROWS OF THIS SEAT. 3 by the template 'for every input the law returns true; each argument reads behind the call as it read before'; 0 by the template 'total and deterministic' (their statements: YtjpiemgpbakfaaaTotals.lean).
  GIVEN WITH THE SEED: the statements are not yours to turn. If you find one false, say at which input.
  Laid BY PROGRAM, IN A SANDBOX (cutbox-rows.mjs): the forced cells as the released guide's own fill.sh prints them over the translation b7598d0c6679d61f… (all of the seat's roots in one cut). By AI agents, Wed Nov 11 2026. No macro, syntax, notation, axiom, sorry.
-/
import Derived.Test.YtjpiemgpbakfaaaChecked
import GoSem.Claim
import GoSem.ClaimJoined
import GoSem.ClaimMapViews
import Derived.JoinedTies
import Derived.KernelRfl
namespace Go.Proofs.Ytjpiemgpbakfaaa
/- THE CELL 'sum', in the pinned program and in every row, IS THE sha256 OF THE DUMP (.gsa) THAT YtjpiemgpbakfaaaProg.lean LOADS. Nothing in Lean hashes anything: it is a label: what it is worth is what the hold of that sum in a sandbox is worth. -/
noncomputable def Try.pinned : Pinned := { name := "ytjpiemgpbakfaaa", sum := "b7598d0c6679d61f0c3660e1b37ce8e668692b25a44affc80d02028af082faff", checked := Try.checked }
namespace Rows
def none {H : Type} : Left H := { results := [], args := [] }

/-- 'leveelaw13.CastOrders': WHATEVER THE INPUT: true; the input reads as it did. -/
def castOrdersSpec : ChangeSpec := { name := "castOrders", fn := fun _ => fun
  | [d1, d2] => { results := [.lit (.bool true)], args := [d1, d2] }
  | _ => none }
def castOrdersRow : OpenClaim := { program := "ytjpiemgpbakfaaa", sum := "b7598d0c6679d61f0c3660e1b37ce8e668692b25a44affc80d02028af082faff", func := "levee/leveelaw13.CastOrders", spec := "castOrders", inPlace := ["slices.overlaps[levee/api.Txn]"], apart := false }
def CastOrdersSaid : Prop := castOrdersRow.holds Try.pinned (OpenSpec.ofChange castOrdersSpec)

/-- ITS FALSE NEIGHBOUR: 'it returns false'. Refute it at one input. -/
def castOrdersWrong : ChangeSpec := { name := "castOrders", fn := fun _ => fun
  | [d1, d2] => { results := [.lit (.bool false)], args := [d1, d2] }
  | _ => none }
def CastOrdersWrongFalsely : Prop := castOrdersRow.holds Try.pinned (OpenSpec.ofChange castOrdersWrong)

/-- 'leveelaw13.CastEarly': WHATEVER THE INPUT: true; the input reads as it did. -/
def castEarlySpec : ChangeSpec := { name := "castEarly", fn := fun _ => fun
  | [d] => { results := [.lit (.bool true)], args := [d] }
  | _ => none }
def castEarlyRow : OpenClaim := { program := "ytjpiemgpbakfaaa", sum := "b7598d0c6679d61f0c3660e1b37ce8e668692b25a44affc80d02028af082faff", func := "levee/leveelaw13.CastEarly", spec := "castEarly", inPlace := ["slices.overlaps[levee/api.Txn]"], apart := false }
def CastEarlySaid : Prop := castEarlyRow.holds Try.pinned (OpenSpec.ofChange castEarlySpec)

/-- ITS FALSE NEIGHBOUR: 'it returns false'. Refute it at one input. -/
def castEarlyWrong : ChangeSpec := { name := "castEarly", fn := fun _ => fun
  | [d] => { results := [.lit (.bool false)], args := [d] }
  | _ => none }
def CastEarlyWrongFalsely : Prop := castEarlyRow.holds Try.pinned (OpenSpec.ofChange castEarlyWrong)

/-- 'leveelaw13.CastAgain': WHATEVER THE INPUT: true; the input reads as it did. -/
def castAgainSpec : ChangeSpec := { name := "castAgain", fn := fun _ => fun
  | [d1, d2] => { results := [.lit (.bool true)], args := [d1, d2] }
  | _ => none }
def castAgainRow : OpenClaim := { program := "ytjpiemgpbakfaaa", sum := "b7598d0c6679d61f0c3660e1b37ce8e668692b25a44affc80d02028af082faff", func := "levee/leveelaw13.CastAgain", spec := "castAgain", inPlace := ["slices.overlaps[levee/api.Txn]"], apart := false }
def CastAgainSaid : Prop := castAgainRow.holds Try.pinned (OpenSpec.ofChange castAgainSpec)

/-- ITS FALSE NEIGHBOUR: 'it returns false'. Refute it at one input. -/
def castAgainWrong : ChangeSpec := { name := "castAgain", fn := fun _ => fun
  | [d1, d2] => { results := [.lit (.bool false)], args := [d1, d2] }
  | _ => none }
def CastAgainWrongFalsely : Prop := castAgainRow.holds Try.pinned (OpenSpec.ofChange castAgainWrong)

/- THE SECOND FORM. 'bulk': how many values and letters a reading holds, each counted each time it is reached (what is shared counts as often as it is met; a slice's spare places count too). A statement '..UptoSaid' is the law's where the arguments, and the package variables that the reading takes, are together of bulk at most 1048576: NARROWER than '..Said'. Prove '..Said' where nothing that the law and all that it calls make is longer than what came in: it says more and counts as full. Else prove '..UptoSaid'. A law counts once. -/
mutual
def uptoBulk {H : Type} : DataW H → Nat
  | .lit (.string bytes) => bytes.length + 1
  | .lit _ => 1
  | .nil => 1
  | .ptr d => uptoBulk d + 1
  | .slice elems spare => uptoBulkAll elems + uptoBulkAll spare + 1
  | .agg parts => uptoBulkAll parts + 1
  | .iface _ d => uptoBulk d + 1
  | .map entries => uptoBulkEntries entries + 1
  | .held _ => 1
def uptoBulkAll {H : Type} : List (DataW H) → Nat
  | [] => 0
  | d :: r => uptoBulk d + uptoBulkAll r
def uptoBulkEntries {H : Type} : List (Lit × DataW H) → Nat
  | [] => 0
  | x :: r => uptoBulkEntry x + uptoBulkEntries r
def uptoBulkEntry {H : Type} : Lit × DataW H → Nat
  | (.string bytes, d) => bytes.length + uptoBulk d + 1
  | (_, d) => uptoBulk d + 1
 end
def uptoSmall : (H : Type) → List (DataW H) → Bool := fun _ ds => decide (uptoBulkAll ds ≤ 1048576)
def OpenSpec.upto (s : _root_.Go.ChangeSpec) : _root_.Go.OpenSpec := { _root_.Go.OpenSpec.ofChange s with cond := some uptoSmall }

/-- 'leveelaw13.CastOrders', WHERE WHAT IT READS IS OF BULK AT MOST 1048576: true; the input reads as it did. -/
def castOrdersUptoRow : OpenClaim := { program := "ytjpiemgpbakfaaa", sum := "b7598d0c6679d61f0c3660e1b37ce8e668692b25a44affc80d02028af082faff", func := "levee/leveelaw13.CastOrders", spec := "castOrders", inPlace := ["slices.overlaps[levee/api.Txn]"], apart := false, narrowed := true }
def CastOrdersUptoSaid : Prop := castOrdersUptoRow.holds Try.pinned (OpenSpec.upto castOrdersSpec)

/-- 'leveelaw13.CastEarly', WHERE WHAT IT READS IS OF BULK AT MOST 1048576: true; the input reads as it did. -/
def castEarlyUptoRow : OpenClaim := { program := "ytjpiemgpbakfaaa", sum := "b7598d0c6679d61f0c3660e1b37ce8e668692b25a44affc80d02028af082faff", func := "levee/leveelaw13.CastEarly", spec := "castEarly", inPlace := ["slices.overlaps[levee/api.Txn]"], apart := false, narrowed := true }
def CastEarlyUptoSaid : Prop := castEarlyUptoRow.holds Try.pinned (OpenSpec.upto castEarlySpec)

/-- 'leveelaw13.CastAgain', WHERE WHAT IT READS IS OF BULK AT MOST 1048576: true; the input reads as it did. -/
def castAgainUptoRow : OpenClaim := { program := "ytjpiemgpbakfaaa", sum := "b7598d0c6679d61f0c3660e1b37ce8e668692b25a44affc80d02028af082faff", func := "levee/leveelaw13.CastAgain", spec := "castAgain", inPlace := ["slices.overlaps[levee/api.Txn]"], apart := false, narrowed := true }
def CastAgainUptoSaid : Prop := castAgainUptoRow.holds Try.pinned (OpenSpec.upto castAgainSpec)

end Rows
end Go.Proofs.Ytjpiemgpbakfaaa
