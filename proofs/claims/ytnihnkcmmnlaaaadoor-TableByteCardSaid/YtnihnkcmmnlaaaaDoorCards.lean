/-
  DERIVED. GIVEN WITH THE SEED: THE CARDS: each row of YtnihnkcmmnlaaaaDoorRows.lean that lists a variable, with what it lists TIED to the program's text (the seventh form; the later family's looks); each row that meets fmt, with fmt's text TOLD by the authors' own Lean function (tested against real Go, not proved from fmt's source: count such statements apart). THE CARD IS WHAT COUNTS. Prove the row's statement (the work); the ties are given (YtnihnkcmmnlaaaaDoorTie.lean); close each card by the builder's one call (the guide's Derived/Test/ToyasCard.lean, 'card_holds'). Laid BY PROGRAM, IN A SANDBOX (cutbox-door.mjs). By AI agents, Wed Nov 11 2026. No macro, syntax, notation, axiom, sorry.
-/
import Derived.Test.YtnihnkcmmnlaaaaDoorRows
import GoSem.ClaimSeven
namespace Go.Proofs.YtnihnkcmmnlaaaaDoor
namespace Rows

/-- THE TIED CARD OF 'leveelaw06.TableBuilds'. -/
def tableBuildsCard : Claim7 := { stood := { row := tableBuildsRow, standIns := [], harness := (true, "0c54eac095bfeef4026e282ad54867d5934422c5bd637f9585119b06120a0099"), looks := false }, kinds := [], alts := [], laidByText := true, laidKinds := [.data], laidTests := true, laidLooks := .later }
def TableBuildsCardSaid : Prop := Claim7.holds Tryd.pinned (.plain (OpenSpec.ofChange tableBuildsSpec)) tableBuildsCard

/-- THE TIED CARD OF 'leveelaw06.TableReads'. -/
def tableReadsCard : Claim7 := { stood := { row := tableReadsRow, standIns := [], harness := (true, "0c54eac095bfeef4026e282ad54867d5934422c5bd637f9585119b06120a0099"), looks := false }, kinds := [], alts := [], laidByText := true, laidKinds := [.data], laidTests := true, laidLooks := .later }
def TableReadsCardSaid : Prop := Claim7.holds Tryd.pinned (.plain (OpenSpec.ofChange tableReadsSpec)) tableReadsCard

/-- THE TIED CARD OF 'leveelaw06.TableBack'. -/
def tableBackCard : Claim7 := { stood := { row := tableBackRow, standIns := [], harness := (true, "0c54eac095bfeef4026e282ad54867d5934422c5bd637f9585119b06120a0099"), looks := false }, kinds := [], alts := [], laidByText := true, laidKinds := [.data], laidTests := true, laidLooks := .later }
def TableBackCardSaid : Prop := Claim7.holds Tryd.pinned (.plain (OpenSpec.ofChange tableBackSpec)) tableBackCard

/-- THE TIED CARD OF 'leveelaw06.TableAsked'. -/
def tableAskedCard : Claim7 := { stood := { row := tableAskedRow, standIns := [], harness := (true, "0c54eac095bfeef4026e282ad54867d5934422c5bd637f9585119b06120a0099"), looks := false }, kinds := [], alts := [], laidByText := true, laidKinds := [.data], laidTests := true, laidLooks := .later }
def TableAskedCardSaid : Prop := Claim7.holds Tryd.pinned (.plain (OpenSpec.ofChange tableAskedSpec)) tableAskedCard

/-- THE TIED CARD OF 'leveelaw06.TableByte'. -/
def tableByteCard : Claim7 := { stood := { row := tableByteRow, standIns := [], harness := (true, "0c54eac095bfeef4026e282ad54867d5934422c5bd637f9585119b06120a0099"), looks := false }, kinds := [], alts := [], laidByText := true, laidKinds := [.data], laidTests := true, laidLooks := .later }
def TableByteCardSaid : Prop := Claim7.holds Tryd.pinned (.plain (OpenSpec.ofChange tableByteSpec)) tableByteCard

/-- THE TIED CARD OF 'leveelaw06.TableUnlike'. -/
def tableUnlikeCard : Claim7 := { stood := { row := tableUnlikeRow, standIns := [], harness := (true, "0c54eac095bfeef4026e282ad54867d5934422c5bd637f9585119b06120a0099"), looks := false }, kinds := [], alts := [], laidByText := true, laidKinds := [.data], laidTests := true, laidLooks := .later }
def TableUnlikeCardSaid : Prop := Claim7.holds Tryd.pinned (.plain (OpenSpec.ofChange tableUnlikeSpec)) tableUnlikeCard

/-- THE SECOND FORM's CARD OF 'leveelaw06.TableBuilds'. -/
def tableBuildsUptoCard : Claim7 := { stood := { row := tableBuildsUptoRow, standIns := [], harness := (true, "0c54eac095bfeef4026e282ad54867d5934422c5bd637f9585119b06120a0099"), looks := false }, kinds := [], alts := [], laidByText := true, laidKinds := [.data], laidTests := true, laidLooks := .later }
def TableBuildsUptoCardSaid : Prop := Claim7.holds Tryd.pinned (.plain (OpenSpec.upto tableBuildsSpec)) tableBuildsUptoCard

/-- THE SECOND FORM's CARD OF 'leveelaw06.TableReads'. -/
def tableReadsUptoCard : Claim7 := { stood := { row := tableReadsUptoRow, standIns := [], harness := (true, "0c54eac095bfeef4026e282ad54867d5934422c5bd637f9585119b06120a0099"), looks := false }, kinds := [], alts := [], laidByText := true, laidKinds := [.data], laidTests := true, laidLooks := .later }
def TableReadsUptoCardSaid : Prop := Claim7.holds Tryd.pinned (.plain (OpenSpec.upto tableReadsSpec)) tableReadsUptoCard

/-- THE SECOND FORM's CARD OF 'leveelaw06.TableBack'. -/
def tableBackUptoCard : Claim7 := { stood := { row := tableBackUptoRow, standIns := [], harness := (true, "0c54eac095bfeef4026e282ad54867d5934422c5bd637f9585119b06120a0099"), looks := false }, kinds := [], alts := [], laidByText := true, laidKinds := [.data], laidTests := true, laidLooks := .later }
def TableBackUptoCardSaid : Prop := Claim7.holds Tryd.pinned (.plain (OpenSpec.upto tableBackSpec)) tableBackUptoCard

/-- THE SECOND FORM's CARD OF 'leveelaw06.TableAsked'. -/
def tableAskedUptoCard : Claim7 := { stood := { row := tableAskedUptoRow, standIns := [], harness := (true, "0c54eac095bfeef4026e282ad54867d5934422c5bd637f9585119b06120a0099"), looks := false }, kinds := [], alts := [], laidByText := true, laidKinds := [.data], laidTests := true, laidLooks := .later }
def TableAskedUptoCardSaid : Prop := Claim7.holds Tryd.pinned (.plain (OpenSpec.upto tableAskedSpec)) tableAskedUptoCard

/-- THE SECOND FORM's CARD OF 'leveelaw06.TableByte'. -/
def tableByteUptoCard : Claim7 := { stood := { row := tableByteUptoRow, standIns := [], harness := (true, "0c54eac095bfeef4026e282ad54867d5934422c5bd637f9585119b06120a0099"), looks := false }, kinds := [], alts := [], laidByText := true, laidKinds := [.data], laidTests := true, laidLooks := .later }
def TableByteUptoCardSaid : Prop := Claim7.holds Tryd.pinned (.plain (OpenSpec.upto tableByteSpec)) tableByteUptoCard

/-- THE SECOND FORM's CARD OF 'leveelaw06.TableUnlike'. -/
def tableUnlikeUptoCard : Claim7 := { stood := { row := tableUnlikeUptoRow, standIns := [], harness := (true, "0c54eac095bfeef4026e282ad54867d5934422c5bd637f9585119b06120a0099"), looks := false }, kinds := [], alts := [], laidByText := true, laidKinds := [.data], laidTests := true, laidLooks := .later }
def TableUnlikeUptoCardSaid : Prop := Claim7.holds Tryd.pinned (.plain (OpenSpec.upto tableUnlikeSpec)) tableUnlikeUptoCard
end Rows
end Go.Proofs.YtnihnkcmmnlaaaaDoor
