/-
  DERIVED. GIVEN WITH THE SEED: THE CARDS: each row of YthmnffiiondggaaDoorRows.lean that lists a variable, with what it lists TIED to the program's text (the seventh form; the later family's looks); each row that meets fmt, with fmt's text TOLD by the authors' own Lean function (tested against real Go, not proved from fmt's source: count such statements apart). THE CARD IS WHAT COUNTS. Prove the row's statement (the work); the ties are given (YthmnffiiondggaaDoorTie.lean); close each card by the builder's one call (the guide's Derived/Test/ToyasCard.lean, 'card_holds'). Laid BY PROGRAM, IN A SANDBOX (cutbox-door.mjs). By AI agents, Wed Nov 11 2026. No macro, syntax, notation, axiom, sorry.
-/
import Derived.Test.YthmnffiiondggaaDoorRows
import GoSem.ClaimSeven
namespace Go.Proofs.YthmnffiiondggaaDoor
namespace Rows

/-- THE TIED CARD OF 'leveelaw01.CodeNums'. -/
def codeNumsCard : Claim7 := { stood := { row := codeNumsRow, standIns := [], harness := (true, "9b6d2442164b443738809324781c4b58d55496d4986138421ec38b345cb69f4c"), looks := false }, kinds := [], alts := [], laidByText := true, laidKinds := [.data], laidTests := true, laidLooks := .later }
def CodeNumsCardSaid : Prop := Claim7.holds Tryd.pinned (.plain (OpenSpec.ofChange codeNumsSpec)) codeNumsCard

/-- THE TIED CARD OF 'leveelaw01.CodePacks'. -/
def codePacksCard : Claim7 := { stood := { row := codePacksRow, standIns := [], harness := (true, "9b6d2442164b443738809324781c4b58d55496d4986138421ec38b345cb69f4c"), looks := false }, kinds := [], alts := [], laidByText := true, laidKinds := [.data], laidTests := true, laidLooks := .later }
def CodePacksCardSaid : Prop := Claim7.holds Tryd.pinned (.plain (OpenSpec.ofChange codePacksSpec)) codePacksCard

/-- THE TIED CARD OF 'leveelaw01.CodeBack'. -/
def codeBackCard : Claim7 := { stood := { row := codeBackRow, standIns := [], harness := (true, "9b6d2442164b443738809324781c4b58d55496d4986138421ec38b345cb69f4c"), looks := false }, kinds := [], alts := [], laidByText := true, laidKinds := [.data], laidTests := true, laidLooks := .later }
def CodeBackCardSaid : Prop := Claim7.holds Tryd.pinned (.plain (OpenSpec.ofChange codeBackSpec)) codeBackCard

/-- THE TIED CARD OF 'leveelaw01.CodeSums'. -/
def codeSumsCard : Claim7 := { stood := { row := codeSumsRow, standIns := [], harness := (true, "9b6d2442164b443738809324781c4b58d55496d4986138421ec38b345cb69f4c"), looks := false }, kinds := [], alts := [], laidByText := true, laidKinds := [.data], laidTests := true, laidLooks := .later }
def CodeSumsCardSaid : Prop := Claim7.holds Tryd.pinned (.plain (OpenSpec.ofChange codeSumsSpec)) codeSumsCard

/-- THE TIED CARD OF 'leveelaw01.CodeScans'. -/
def codeScansCard : Claim7 := { stood := { row := codeScansRow, standIns := [], harness := (true, "9b6d2442164b443738809324781c4b58d55496d4986138421ec38b345cb69f4c"), looks := false }, kinds := [], alts := [], laidByText := true, laidKinds := [.data], laidTests := true, laidLooks := .later }
def CodeScansCardSaid : Prop := Claim7.holds Tryd.pinned (.plain (OpenSpec.ofChange codeScansSpec)) codeScansCard

/-- THE TIED CARD OF 'leveelaw01.CodeFrames'. -/
def codeFramesCard : Claim7 := { stood := { row := codeFramesRow, standIns := [], harness := (true, "9b6d2442164b443738809324781c4b58d55496d4986138421ec38b345cb69f4c"), looks := false }, kinds := [], alts := [], laidByText := true, laidKinds := [.data], laidTests := true, laidLooks := .later }
def CodeFramesCardSaid : Prop := Claim7.holds Tryd.pinned (.plain (OpenSpec.ofChange codeFramesSpec)) codeFramesCard

/-- THE TIED CARD OF 'leveelaw01.CodeTorn'. -/
def codeTornCard : Claim7 := { stood := { row := codeTornRow, standIns := [], harness := (true, "9b6d2442164b443738809324781c4b58d55496d4986138421ec38b345cb69f4c"), looks := false }, kinds := [], alts := [], laidByText := true, laidKinds := [.data], laidTests := true, laidLooks := .later }
def CodeTornCardSaid : Prop := Claim7.holds Tryd.pinned (.plain (OpenSpec.ofChange codeTornSpec)) codeTornCard

/-- THE TIED CARD OF 'leveelaw01.CodeByte'. -/
def codeByteCard : Claim7 := { stood := { row := codeByteRow, standIns := [], harness := (true, "9b6d2442164b443738809324781c4b58d55496d4986138421ec38b345cb69f4c"), looks := false }, kinds := [], alts := [], laidByText := true, laidKinds := [.data], laidTests := true, laidLooks := .later }
def CodeByteCardSaid : Prop := Claim7.holds Tryd.pinned (.plain (OpenSpec.ofChange codeByteSpec)) codeByteCard

/-- THE TIED CARD OF 'leveelaw01.CodeUnlike'. -/
def codeUnlikeCard : Claim7 := { stood := { row := codeUnlikeRow, standIns := [], harness := (true, "9b6d2442164b443738809324781c4b58d55496d4986138421ec38b345cb69f4c"), looks := false }, kinds := [], alts := [], laidByText := true, laidKinds := [.data], laidTests := true, laidLooks := .later }
def CodeUnlikeCardSaid : Prop := Claim7.holds Tryd.pinned (.plain (OpenSpec.ofChange codeUnlikeSpec)) codeUnlikeCard

/-- THE SECOND FORM's CARD OF 'leveelaw01.CodeNums'. -/
def codeNumsUptoCard : Claim7 := { stood := { row := codeNumsUptoRow, standIns := [], harness := (true, "9b6d2442164b443738809324781c4b58d55496d4986138421ec38b345cb69f4c"), looks := false }, kinds := [], alts := [], laidByText := true, laidKinds := [.data], laidTests := true, laidLooks := .later }
def CodeNumsUptoCardSaid : Prop := Claim7.holds Tryd.pinned (.plain (OpenSpec.upto codeNumsSpec)) codeNumsUptoCard

/-- THE SECOND FORM's CARD OF 'leveelaw01.CodePacks'. -/
def codePacksUptoCard : Claim7 := { stood := { row := codePacksUptoRow, standIns := [], harness := (true, "9b6d2442164b443738809324781c4b58d55496d4986138421ec38b345cb69f4c"), looks := false }, kinds := [], alts := [], laidByText := true, laidKinds := [.data], laidTests := true, laidLooks := .later }
def CodePacksUptoCardSaid : Prop := Claim7.holds Tryd.pinned (.plain (OpenSpec.upto codePacksSpec)) codePacksUptoCard

/-- THE SECOND FORM's CARD OF 'leveelaw01.CodeBack'. -/
def codeBackUptoCard : Claim7 := { stood := { row := codeBackUptoRow, standIns := [], harness := (true, "9b6d2442164b443738809324781c4b58d55496d4986138421ec38b345cb69f4c"), looks := false }, kinds := [], alts := [], laidByText := true, laidKinds := [.data], laidTests := true, laidLooks := .later }
def CodeBackUptoCardSaid : Prop := Claim7.holds Tryd.pinned (.plain (OpenSpec.upto codeBackSpec)) codeBackUptoCard

/-- THE SECOND FORM's CARD OF 'leveelaw01.CodeSums'. -/
def codeSumsUptoCard : Claim7 := { stood := { row := codeSumsUptoRow, standIns := [], harness := (true, "9b6d2442164b443738809324781c4b58d55496d4986138421ec38b345cb69f4c"), looks := false }, kinds := [], alts := [], laidByText := true, laidKinds := [.data], laidTests := true, laidLooks := .later }
def CodeSumsUptoCardSaid : Prop := Claim7.holds Tryd.pinned (.plain (OpenSpec.upto codeSumsSpec)) codeSumsUptoCard

/-- THE SECOND FORM's CARD OF 'leveelaw01.CodeScans'. -/
def codeScansUptoCard : Claim7 := { stood := { row := codeScansUptoRow, standIns := [], harness := (true, "9b6d2442164b443738809324781c4b58d55496d4986138421ec38b345cb69f4c"), looks := false }, kinds := [], alts := [], laidByText := true, laidKinds := [.data], laidTests := true, laidLooks := .later }
def CodeScansUptoCardSaid : Prop := Claim7.holds Tryd.pinned (.plain (OpenSpec.upto codeScansSpec)) codeScansUptoCard

/-- THE SECOND FORM's CARD OF 'leveelaw01.CodeFrames'. -/
def codeFramesUptoCard : Claim7 := { stood := { row := codeFramesUptoRow, standIns := [], harness := (true, "9b6d2442164b443738809324781c4b58d55496d4986138421ec38b345cb69f4c"), looks := false }, kinds := [], alts := [], laidByText := true, laidKinds := [.data], laidTests := true, laidLooks := .later }
def CodeFramesUptoCardSaid : Prop := Claim7.holds Tryd.pinned (.plain (OpenSpec.upto codeFramesSpec)) codeFramesUptoCard

/-- THE SECOND FORM's CARD OF 'leveelaw01.CodeTorn'. -/
def codeTornUptoCard : Claim7 := { stood := { row := codeTornUptoRow, standIns := [], harness := (true, "9b6d2442164b443738809324781c4b58d55496d4986138421ec38b345cb69f4c"), looks := false }, kinds := [], alts := [], laidByText := true, laidKinds := [.data], laidTests := true, laidLooks := .later }
def CodeTornUptoCardSaid : Prop := Claim7.holds Tryd.pinned (.plain (OpenSpec.upto codeTornSpec)) codeTornUptoCard

/-- THE SECOND FORM's CARD OF 'leveelaw01.CodeByte'. -/
def codeByteUptoCard : Claim7 := { stood := { row := codeByteUptoRow, standIns := [], harness := (true, "9b6d2442164b443738809324781c4b58d55496d4986138421ec38b345cb69f4c"), looks := false }, kinds := [], alts := [], laidByText := true, laidKinds := [.data], laidTests := true, laidLooks := .later }
def CodeByteUptoCardSaid : Prop := Claim7.holds Tryd.pinned (.plain (OpenSpec.upto codeByteSpec)) codeByteUptoCard

/-- THE SECOND FORM's CARD OF 'leveelaw01.CodeUnlike'. -/
def codeUnlikeUptoCard : Claim7 := { stood := { row := codeUnlikeUptoRow, standIns := [], harness := (true, "9b6d2442164b443738809324781c4b58d55496d4986138421ec38b345cb69f4c"), looks := false }, kinds := [], alts := [], laidByText := true, laidKinds := [.data], laidTests := true, laidLooks := .later }
def CodeUnlikeUptoCardSaid : Prop := Claim7.holds Tryd.pinned (.plain (OpenSpec.upto codeUnlikeSpec)) codeUnlikeUptoCard
end Rows
end Go.Proofs.YthmnffiiondggaaDoor
