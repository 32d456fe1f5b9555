/-
  DERIVED. GIVEN WITH THE SEED: THE CARDS: each row of YtnamjgbppgdgeaaDoorRows.lean that lists a variable, with what it lists TIED to the program's text (the seventh form; the later family's looks); each row that meets fmt, with fmt's text TOLD by the authors' own Lean function (tested against real Go, not proved from fmt's source: count such statements apart). THE CARD IS WHAT COUNTS. Prove the row's statement (the work); the ties are given (YtnamjgbppgdgeaaDoorTie.lean); close each card by the builder's one call (the guide's Derived/Test/ToyasCard.lean, 'card_holds'). Laid BY PROGRAM, IN A SANDBOX (cutbox-door.mjs). By AI agents, Wed Nov 11 2026. No macro, syntax, notation, axiom, sorry.
-/
import Derived.Test.YtnamjgbppgdgeaaDoorRows
import GoSem.ClaimSeven
namespace Go.Proofs.YtnamjgbppgdgeaaDoor
namespace Rows

/-- THE TIED CARD OF 'leveelaw02.VecTells'. -/
def vecTellsCard : Claim7 := { stood := { row := vecTellsRow, standIns := [], harness := (true, "fad99b521e61d303c5840901ebb498f532666294738274803a982a724c95301b"), looks := true }, kinds := [], alts := [], laidByText := true, laidKinds := [.data, .data, .data], laidTests := true, laidLooks := .later }
def VecTellsCardSaid : Prop := Claim7.holds Tryd.pinned (.plain (OpenSpec.ofChange vecTellsSpec)) vecTellsCard

/-- THE TIED CARD OF 'leveelaw02.VecTexts'. -/
def vecTextsCard : Claim7 := { stood := { row := vecTextsRow, standIns := [], harness := (true, "fad99b521e61d303c5840901ebb498f532666294738274803a982a724c95301b"), looks := true }, kinds := [], alts := [], laidByText := true, laidKinds := [.data, .data, .data, .sentinel, .sentinel], laidTests := true, laidLooks := .later }
def VecTextsCardSaid : Prop := Claim7.holds Tryd.pinned (.plain (OpenSpec.ofChange vecTextsSpec)) vecTextsCard

/-- THE TIED CARD OF 'leveelaw02.VecLattice'. -/
def vecLatticeCard : Claim7 := { stood := { row := vecLatticeRow, standIns := [], harness := (true, "fad99b521e61d303c5840901ebb498f532666294738274803a982a724c95301b"), looks := true }, kinds := [], alts := [], laidByText := true, laidKinds := [.data, .data, .data], laidTests := true, laidLooks := .later }
def VecLatticeCardSaid : Prop := Claim7.holds Tryd.pinned (.plain (OpenSpec.ofChange vecLatticeSpec)) vecLatticeCard

/-- THE TIED CARD OF 'leveelaw02.VecHas'. -/
def vecHasCard : Claim7 := { stood := { row := vecHasRow, standIns := [], harness := (true, "fad99b521e61d303c5840901ebb498f532666294738274803a982a724c95301b"), looks := true }, kinds := [], alts := [], laidByText := true, laidKinds := [.data, .data, .data], laidTests := true, laidLooks := .later }
def VecHasCardSaid : Prop := Claim7.holds Tryd.pinned (.plain (OpenSpec.ofChange vecHasSpec)) vecHasCard

/-- THE TIED CARD OF 'leveelaw02.VecLaws'. -/
def vecLawsCard : Claim7 := { stood := { row := vecLawsRow, standIns := [], harness := (true, "fad99b521e61d303c5840901ebb498f532666294738274803a982a724c95301b"), looks := true }, kinds := [], alts := [], laidByText := true, laidKinds := [.data, .data, .data], laidTests := true, laidLooks := .later }
def VecLawsCardSaid : Prop := Claim7.holds Tryd.pinned (.plain (OpenSpec.ofChange vecLawsSpec)) vecLawsCard

/-- THE SECOND FORM's CARD OF 'leveelaw02.VecTells'. -/
def vecTellsUptoCard : Claim7 := { stood := { row := vecTellsUptoRow, standIns := [], harness := (true, "fad99b521e61d303c5840901ebb498f532666294738274803a982a724c95301b"), looks := true }, kinds := [], alts := [], laidByText := true, laidKinds := [.data, .data, .data], laidTests := true, laidLooks := .later }
def VecTellsUptoCardSaid : Prop := Claim7.holds Tryd.pinned (.plain (OpenSpec.upto vecTellsSpec)) vecTellsUptoCard

/-- THE SECOND FORM's CARD OF 'leveelaw02.VecTexts'. -/
def vecTextsUptoCard : Claim7 := { stood := { row := vecTextsUptoRow, standIns := [], harness := (true, "fad99b521e61d303c5840901ebb498f532666294738274803a982a724c95301b"), looks := true }, kinds := [], alts := [], laidByText := true, laidKinds := [.data, .data, .data, .sentinel, .sentinel], laidTests := true, laidLooks := .later }
def VecTextsUptoCardSaid : Prop := Claim7.holds Tryd.pinned (.plain (OpenSpec.upto vecTextsSpec)) vecTextsUptoCard

/-- THE SECOND FORM's CARD OF 'leveelaw02.VecLattice'. -/
def vecLatticeUptoCard : Claim7 := { stood := { row := vecLatticeUptoRow, standIns := [], harness := (true, "fad99b521e61d303c5840901ebb498f532666294738274803a982a724c95301b"), looks := true }, kinds := [], alts := [], laidByText := true, laidKinds := [.data, .data, .data], laidTests := true, laidLooks := .later }
def VecLatticeUptoCardSaid : Prop := Claim7.holds Tryd.pinned (.plain (OpenSpec.upto vecLatticeSpec)) vecLatticeUptoCard

/-- THE SECOND FORM's CARD OF 'leveelaw02.VecHas'. -/
def vecHasUptoCard : Claim7 := { stood := { row := vecHasUptoRow, standIns := [], harness := (true, "fad99b521e61d303c5840901ebb498f532666294738274803a982a724c95301b"), looks := true }, kinds := [], alts := [], laidByText := true, laidKinds := [.data, .data, .data], laidTests := true, laidLooks := .later }
def VecHasUptoCardSaid : Prop := Claim7.holds Tryd.pinned (.plain (OpenSpec.upto vecHasSpec)) vecHasUptoCard

/-- THE SECOND FORM's CARD OF 'leveelaw02.VecLaws'. -/
def vecLawsUptoCard : Claim7 := { stood := { row := vecLawsUptoRow, standIns := [], harness := (true, "fad99b521e61d303c5840901ebb498f532666294738274803a982a724c95301b"), looks := true }, kinds := [], alts := [], laidByText := true, laidKinds := [.data, .data, .data], laidTests := true, laidLooks := .later }
def VecLawsUptoCardSaid : Prop := Claim7.holds Tryd.pinned (.plain (OpenSpec.upto vecLawsSpec)) vecLawsUptoCard
end Rows
end Go.Proofs.YtnamjgbppgdgeaaDoor
