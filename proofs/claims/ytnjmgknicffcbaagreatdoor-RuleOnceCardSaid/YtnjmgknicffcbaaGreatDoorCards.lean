/-
  DERIVED. GIVEN WITH THE SEED: THE CARDS: each row of YtnjmgknicffcbaaGreatDoorRows.lean that lists a variable, with what it lists TIED to the program's text (the seventh form; the later family's looks); each row that meets fmt, with fmt's text TOLD by the authors' own Lean function (tested against real Go, not proved from fmt's source: count such statements apart). THE CARD IS WHAT COUNTS. Prove the row's statement (the work); the ties are given (YtnjmgknicffcbaaGreatDoorTie.lean); close each card by the builder's one call (the guide's Derived/Test/ToyasCard.lean, 'card_holds'). Laid BY PROGRAM, IN A SANDBOX (cutbox-door.mjs). By AI agents, Wed Nov 11 2026. No macro, syntax, notation, axiom, sorry.
-/
import Derived.Test.YtnjmgknicffcbaaGreatDoorRows
import GoSem.ClaimSeven
namespace Go.Proofs.YtnjmgknicffcbaaGreatDoor
namespace Rows

/-- THE TIED CARD OF 'leveelaw14.RuleHolds'. -/
def ruleHoldsCard : Claim7 := { stood := { row := ruleHoldsRow, standIns := [], harness := (true, "923889b2c0d88240ed60cac63033411308ccba68397d5528f57506e18d35c306"), looks := true }, kinds := [], alts := [], laidByText := true, laidKinds := [.data, .data, .data, .data, .sentinel, .sentinel, .data, .pinned], laidTests := true, laidLooks := .later }
def RuleHoldsCardSaid : Prop := Claim7.holds Tryz.pinned (.plain (OpenSpec.ofChange ruleHoldsSpec)) ruleHoldsCard

/-- THE TIED CARD OF 'leveelaw14.RuleBack'. -/
def ruleBackCard : Claim7 := { stood := { row := ruleBackRow, standIns := [], harness := (true, "923889b2c0d88240ed60cac63033411308ccba68397d5528f57506e18d35c306"), looks := true }, kinds := [], alts := [], laidByText := true, laidKinds := [.data, .data, .data, .data, .sentinel, .sentinel, .data, .pinned], laidTests := true, laidLooks := .later }
def RuleBackCardSaid : Prop := Claim7.holds Tryz.pinned (.plain (OpenSpec.ofChange ruleBackSpec)) ruleBackCard

/-- THE TIED CARD OF 'leveelaw14.RuleRestores'. -/
def ruleRestoresCard : Claim7 := { stood := { row := ruleRestoresRow, standIns := [], harness := (true, "923889b2c0d88240ed60cac63033411308ccba68397d5528f57506e18d35c306"), looks := true }, kinds := [], alts := [], laidByText := true, laidKinds := [.data, .data, .data, .data, .sentinel, .sentinel, .data, .pinned], laidTests := true, laidLooks := .later }
def RuleRestoresCardSaid : Prop := Claim7.holds Tryz.pinned (.plain (OpenSpec.ofChange ruleRestoresSpec)) ruleRestoresCard

/-- THE TIED CARD OF 'leveelaw14.RuleOnce'. -/
def ruleOnceCard : Claim7 := { stood := { row := ruleOnceRow, standIns := [], harness := (true, "923889b2c0d88240ed60cac63033411308ccba68397d5528f57506e18d35c306"), looks := true }, kinds := [], alts := [], laidByText := true, laidKinds := [.data, .data, .data, .data, .sentinel, .sentinel, .data, .pinned], laidTests := true, laidLooks := .later }
def RuleOnceCardSaid : Prop := Claim7.holds Tryz.pinned (.plain (OpenSpec.ofChange ruleOnceSpec)) ruleOnceCard

/-- THE TIED CARD OF 'leveelaw15.RightTells'. -/
def rightTellsCard : Claim7 := { stood := { row := rightTellsRow, standIns := [], harness := (true, "923889b2c0d88240ed60cac63033411308ccba68397d5528f57506e18d35c306"), looks := true }, kinds := [], alts := [], laidByText := true, laidKinds := [.data, .data, .data, .data, .sentinel, .sentinel, .data, .pinned], laidTests := true, laidLooks := .later }
def RightTellsCardSaid : Prop := Claim7.holds Tryz.pinned (.plain (OpenSpec.ofChange rightTellsSpec)) rightTellsCard

/-- THE TIED CARD OF 'leveelaw15.RightSlacks'. -/
def rightSlacksCard : Claim7 := { stood := { row := rightSlacksRow, standIns := [], harness := (true, "923889b2c0d88240ed60cac63033411308ccba68397d5528f57506e18d35c306"), looks := true }, kinds := [], alts := [], laidByText := true, laidKinds := [.data, .data, .data, .data, .sentinel, .sentinel, .data, .pinned], laidTests := true, laidLooks := .later }
def RightSlacksCardSaid : Prop := Claim7.holds Tryz.pinned (.plain (OpenSpec.ofChange rightSlacksSpec)) rightSlacksCard

/-- THE TIED CARD OF 'leveelaw15.RightNever'. -/
def rightNeverCard : Claim7 := { stood := { row := rightNeverRow, standIns := [], harness := (true, "923889b2c0d88240ed60cac63033411308ccba68397d5528f57506e18d35c306"), looks := true }, kinds := [], alts := [], laidByText := true, laidKinds := [.data, .data, .data, .data, .sentinel, .sentinel, .data, .pinned], laidTests := true, laidLooks := .later }
def RightNeverCardSaid : Prop := Claim7.holds Tryz.pinned (.plain (OpenSpec.ofChange rightNeverSpec)) rightNeverCard

/-- THE TIED CARD OF 'leveelaw15.RightSum'. -/
def rightSumCard : Claim7 := { stood := { row := rightSumRow, standIns := [], harness := (true, "923889b2c0d88240ed60cac63033411308ccba68397d5528f57506e18d35c306"), looks := true }, kinds := [], alts := [], laidByText := true, laidKinds := [.data, .data, .data, .data, .sentinel, .sentinel, .data, .pinned], laidTests := true, laidLooks := .later }
def RightSumCardSaid : Prop := Claim7.holds Tryz.pinned (.plain (OpenSpec.ofChange rightSumSpec)) rightSumCard

/-- THE TIED CARD OF 'leveelaw15.RightReached'. -/
def rightReachedCard : Claim7 := { stood := { row := rightReachedRow, standIns := [], harness := (true, "923889b2c0d88240ed60cac63033411308ccba68397d5528f57506e18d35c306"), looks := true }, kinds := [], alts := [], laidByText := true, laidKinds := [.data, .data, .data, .data, .sentinel, .sentinel, .data, .pinned], laidTests := true, laidLooks := .later }
def RightReachedCardSaid : Prop := Claim7.holds Tryz.pinned (.plain (OpenSpec.ofChange rightReachedSpec)) rightReachedCard

/-- THE TIED CARD OF 'leveelaw15.RightGives'. -/
def rightGivesCard : Claim7 := { stood := { row := rightGivesRow, standIns := [], harness := (true, "923889b2c0d88240ed60cac63033411308ccba68397d5528f57506e18d35c306"), looks := true }, kinds := [], alts := [], laidByText := true, laidKinds := [.data, .data, .data, .data, .sentinel, .sentinel, .data, .pinned], laidTests := true, laidLooks := .later }
def RightGivesCardSaid : Prop := Claim7.holds Tryz.pinned (.plain (OpenSpec.ofChange rightGivesSpec)) rightGivesCard

/-- THE TIED CARD OF 'leveelaw15.RightMakes'. -/
def rightMakesCard : Claim7 := { stood := { row := rightMakesRow, standIns := [], harness := (true, "923889b2c0d88240ed60cac63033411308ccba68397d5528f57506e18d35c306"), looks := true }, kinds := [], alts := [], laidByText := true, laidKinds := [.data, .data, .data, .data, .sentinel, .sentinel, .data, .pinned], laidTests := true, laidLooks := .later }
def RightMakesCardSaid : Prop := Claim7.holds Tryz.pinned (.plain (OpenSpec.ofChange rightMakesSpec)) rightMakesCard

/-- THE SECOND FORM's CARD OF 'leveelaw14.RuleHolds'. -/
def ruleHoldsUptoCard : Claim7 := { stood := { row := ruleHoldsUptoRow, standIns := [], harness := (true, "923889b2c0d88240ed60cac63033411308ccba68397d5528f57506e18d35c306"), looks := true }, kinds := [], alts := [], laidByText := true, laidKinds := [.data, .data, .data, .data, .sentinel, .sentinel, .data, .pinned], laidTests := true, laidLooks := .later }
def RuleHoldsUptoCardSaid : Prop := Claim7.holds Tryz.pinned (.plain (OpenSpec.upto ruleHoldsSpec)) ruleHoldsUptoCard

/-- THE SECOND FORM's CARD OF 'leveelaw14.RuleBack'. -/
def ruleBackUptoCard : Claim7 := { stood := { row := ruleBackUptoRow, standIns := [], harness := (true, "923889b2c0d88240ed60cac63033411308ccba68397d5528f57506e18d35c306"), looks := true }, kinds := [], alts := [], laidByText := true, laidKinds := [.data, .data, .data, .data, .sentinel, .sentinel, .data, .pinned], laidTests := true, laidLooks := .later }
def RuleBackUptoCardSaid : Prop := Claim7.holds Tryz.pinned (.plain (OpenSpec.upto ruleBackSpec)) ruleBackUptoCard

/-- THE SECOND FORM's CARD OF 'leveelaw14.RuleRestores'. -/
def ruleRestoresUptoCard : Claim7 := { stood := { row := ruleRestoresUptoRow, standIns := [], harness := (true, "923889b2c0d88240ed60cac63033411308ccba68397d5528f57506e18d35c306"), looks := true }, kinds := [], alts := [], laidByText := true, laidKinds := [.data, .data, .data, .data, .sentinel, .sentinel, .data, .pinned], laidTests := true, laidLooks := .later }
def RuleRestoresUptoCardSaid : Prop := Claim7.holds Tryz.pinned (.plain (OpenSpec.upto ruleRestoresSpec)) ruleRestoresUptoCard

/-- THE SECOND FORM's CARD OF 'leveelaw14.RuleOnce'. -/
def ruleOnceUptoCard : Claim7 := { stood := { row := ruleOnceUptoRow, standIns := [], harness := (true, "923889b2c0d88240ed60cac63033411308ccba68397d5528f57506e18d35c306"), looks := true }, kinds := [], alts := [], laidByText := true, laidKinds := [.data, .data, .data, .data, .sentinel, .sentinel, .data, .pinned], laidTests := true, laidLooks := .later }
def RuleOnceUptoCardSaid : Prop := Claim7.holds Tryz.pinned (.plain (OpenSpec.upto ruleOnceSpec)) ruleOnceUptoCard

/-- THE SECOND FORM's CARD OF 'leveelaw15.RightTells'. -/
def rightTellsUptoCard : Claim7 := { stood := { row := rightTellsUptoRow, standIns := [], harness := (true, "923889b2c0d88240ed60cac63033411308ccba68397d5528f57506e18d35c306"), looks := true }, kinds := [], alts := [], laidByText := true, laidKinds := [.data, .data, .data, .data, .sentinel, .sentinel, .data, .pinned], laidTests := true, laidLooks := .later }
def RightTellsUptoCardSaid : Prop := Claim7.holds Tryz.pinned (.plain (OpenSpec.upto rightTellsSpec)) rightTellsUptoCard

/-- THE SECOND FORM's CARD OF 'leveelaw15.RightSlacks'. -/
def rightSlacksUptoCard : Claim7 := { stood := { row := rightSlacksUptoRow, standIns := [], harness := (true, "923889b2c0d88240ed60cac63033411308ccba68397d5528f57506e18d35c306"), looks := true }, kinds := [], alts := [], laidByText := true, laidKinds := [.data, .data, .data, .data, .sentinel, .sentinel, .data, .pinned], laidTests := true, laidLooks := .later }
def RightSlacksUptoCardSaid : Prop := Claim7.holds Tryz.pinned (.plain (OpenSpec.upto rightSlacksSpec)) rightSlacksUptoCard

/-- THE SECOND FORM's CARD OF 'leveelaw15.RightNever'. -/
def rightNeverUptoCard : Claim7 := { stood := { row := rightNeverUptoRow, standIns := [], harness := (true, "923889b2c0d88240ed60cac63033411308ccba68397d5528f57506e18d35c306"), looks := true }, kinds := [], alts := [], laidByText := true, laidKinds := [.data, .data, .data, .data, .sentinel, .sentinel, .data, .pinned], laidTests := true, laidLooks := .later }
def RightNeverUptoCardSaid : Prop := Claim7.holds Tryz.pinned (.plain (OpenSpec.upto rightNeverSpec)) rightNeverUptoCard

/-- THE SECOND FORM's CARD OF 'leveelaw15.RightSum'. -/
def rightSumUptoCard : Claim7 := { stood := { row := rightSumUptoRow, standIns := [], harness := (true, "923889b2c0d88240ed60cac63033411308ccba68397d5528f57506e18d35c306"), looks := true }, kinds := [], alts := [], laidByText := true, laidKinds := [.data, .data, .data, .data, .sentinel, .sentinel, .data, .pinned], laidTests := true, laidLooks := .later }
def RightSumUptoCardSaid : Prop := Claim7.holds Tryz.pinned (.plain (OpenSpec.upto rightSumSpec)) rightSumUptoCard

/-- THE SECOND FORM's CARD OF 'leveelaw15.RightReached'. -/
def rightReachedUptoCard : Claim7 := { stood := { row := rightReachedUptoRow, standIns := [], harness := (true, "923889b2c0d88240ed60cac63033411308ccba68397d5528f57506e18d35c306"), looks := true }, kinds := [], alts := [], laidByText := true, laidKinds := [.data, .data, .data, .data, .sentinel, .sentinel, .data, .pinned], laidTests := true, laidLooks := .later }
def RightReachedUptoCardSaid : Prop := Claim7.holds Tryz.pinned (.plain (OpenSpec.upto rightReachedSpec)) rightReachedUptoCard

/-- THE SECOND FORM's CARD OF 'leveelaw15.RightGives'. -/
def rightGivesUptoCard : Claim7 := { stood := { row := rightGivesUptoRow, standIns := [], harness := (true, "923889b2c0d88240ed60cac63033411308ccba68397d5528f57506e18d35c306"), looks := true }, kinds := [], alts := [], laidByText := true, laidKinds := [.data, .data, .data, .data, .sentinel, .sentinel, .data, .pinned], laidTests := true, laidLooks := .later }
def RightGivesUptoCardSaid : Prop := Claim7.holds Tryz.pinned (.plain (OpenSpec.upto rightGivesSpec)) rightGivesUptoCard

/-- THE SECOND FORM's CARD OF 'leveelaw15.RightMakes'. -/
def rightMakesUptoCard : Claim7 := { stood := { row := rightMakesUptoRow, standIns := [], harness := (true, "923889b2c0d88240ed60cac63033411308ccba68397d5528f57506e18d35c306"), looks := true }, kinds := [], alts := [], laidByText := true, laidKinds := [.data, .data, .data, .data, .sentinel, .sentinel, .data, .pinned], laidTests := true, laidLooks := .later }
def RightMakesUptoCardSaid : Prop := Claim7.holds Tryz.pinned (.plain (OpenSpec.upto rightMakesSpec)) rightMakesUptoCard
end Rows
end Go.Proofs.YtnjmgknicffcbaaGreatDoor
