/-
  DERIVED. GIVEN WITH THE SEED: THE CARDS: each row of YtlnhbndghnkfmaaGreatDoorRows.lean that lists a variable, with what it lists TIED to the program's text (the seventh form; the later family's looks); each row that meets fmt, with fmt's text TOLD by the authors' own Lean function (tested against real Go, not proved from fmt's source: count such statements apart). THE CARD IS WHAT COUNTS. Prove the row's statement (the work); the ties are given (YtlnhbndghnkfmaaGreatDoorTie.lean); close each card by the builder's one call (the guide's Derived/Test/ToyasCard.lean, 'card_holds'). Laid BY PROGRAM, IN A SANDBOX (cutbox-door.mjs). By AI agents, Wed Nov 11 2026. No macro, syntax, notation, axiom, sorry.
-/
import Derived.Test.YtlnhbndghnkfmaaGreatDoorRows
import GoSem.ClaimSeven
namespace Go.Proofs.YtlnhbndghnkfmaaGreatDoor
namespace Rows

/-- THE TIED CARD OF 'leveelaw07.LsmOpens'. -/
def lsmOpensCard : Claim7 := { stood := { row := lsmOpensRow, standIns := [], harness := (true, "a92b231652d66d230cf69887d608ffaa0a7dab0728efaaadae037840d26e850d"), looks := false }, kinds := [], alts := [], laidByText := true, laidKinds := [.data], laidTests := true, laidLooks := .later }
def LsmOpensCardSaid : Prop := Claim7.holds Tryz.pinned (.plain (OpenSpec.ofChange lsmOpensSpec)) lsmOpensCard

/-- THE TIED CARD OF 'leveelaw07.LsmActs'. -/
def lsmActsCard : Claim7 := { stood := { row := lsmActsRow, standIns := [], harness := (true, "a92b231652d66d230cf69887d608ffaa0a7dab0728efaaadae037840d26e850d"), looks := false }, kinds := [], alts := [], laidByText := true, laidKinds := [.data], laidTests := true, laidLooks := .later }
def LsmActsCardSaid : Prop := Claim7.holds Tryz.pinned (.plain (OpenSpec.ofChange lsmActsSpec)) lsmActsCard

/-- THE TIED CARD OF 'leveelaw07.LsmKept'. -/
def lsmKeptCard : Claim7 := { stood := { row := lsmKeptRow, standIns := [], harness := (true, "a92b231652d66d230cf69887d608ffaa0a7dab0728efaaadae037840d26e850d"), looks := false }, kinds := [], alts := [], laidByText := true, laidKinds := [.data], laidTests := true, laidLooks := .later }
def LsmKeptCardSaid : Prop := Claim7.holds Tryz.pinned (.plain (OpenSpec.ofChange lsmKeptSpec)) lsmKeptCard

/-- THE TIED CARD OF 'leveelaw07.LsmSame'. -/
def lsmSameCard : Claim7 := { stood := { row := lsmSameRow, standIns := [], harness := (true, "a92b231652d66d230cf69887d608ffaa0a7dab0728efaaadae037840d26e850d"), looks := false }, kinds := [], alts := [], laidByText := true, laidKinds := [.data], laidTests := true, laidLooks := .later }
def LsmSameCardSaid : Prop := Claim7.holds Tryz.pinned (.plain (OpenSpec.ofChange lsmSameSpec)) lsmSameCard

/-- THE TIED CARD OF 'leveelaw07.LsmAgain'. -/
def lsmAgainCard : Claim7 := { stood := { row := lsmAgainRow, standIns := [], harness := (true, "a92b231652d66d230cf69887d608ffaa0a7dab0728efaaadae037840d26e850d"), looks := false }, kinds := [], alts := [], laidByText := true, laidKinds := [.data], laidTests := true, laidLooks := .later }
def LsmAgainCardSaid : Prop := Claim7.holds Tryz.pinned (.plain (OpenSpec.ofChange lsmAgainSpec)) lsmAgainCard

/-- THE TIED CARD OF 'leveelaw07.LsmModel'. -/
def lsmModelCard : Claim7 := { stood := { row := lsmModelRow, standIns := [], harness := (true, "a92b231652d66d230cf69887d608ffaa0a7dab0728efaaadae037840d26e850d"), looks := false }, kinds := [], alts := [], laidByText := true, laidKinds := [.data], laidTests := true, laidLooks := .later }
def LsmModelCardSaid : Prop := Claim7.holds Tryz.pinned (.plain (OpenSpec.ofChange lsmModelSpec)) lsmModelCard

/-- THE TIED CARD OF 'leveelaw07.LsmShapes'. -/
def lsmShapesCard : Claim7 := { stood := { row := lsmShapesRow, standIns := [], harness := (true, "a92b231652d66d230cf69887d608ffaa0a7dab0728efaaadae037840d26e850d"), looks := false }, kinds := [], alts := [], laidByText := true, laidKinds := [.data], laidTests := true, laidLooks := .later }
def LsmShapesCardSaid : Prop := Claim7.holds Tryz.pinned (.plain (OpenSpec.ofChange lsmShapesSpec)) lsmShapesCard

/-- THE SECOND FORM's CARD OF 'leveelaw07.LsmOpens'. -/
def lsmOpensUptoCard : Claim7 := { stood := { row := lsmOpensUptoRow, standIns := [], harness := (true, "a92b231652d66d230cf69887d608ffaa0a7dab0728efaaadae037840d26e850d"), looks := false }, kinds := [], alts := [], laidByText := true, laidKinds := [.data], laidTests := true, laidLooks := .later }
def LsmOpensUptoCardSaid : Prop := Claim7.holds Tryz.pinned (.plain (OpenSpec.upto lsmOpensSpec)) lsmOpensUptoCard

/-- THE SECOND FORM's CARD OF 'leveelaw07.LsmActs'. -/
def lsmActsUptoCard : Claim7 := { stood := { row := lsmActsUptoRow, standIns := [], harness := (true, "a92b231652d66d230cf69887d608ffaa0a7dab0728efaaadae037840d26e850d"), looks := false }, kinds := [], alts := [], laidByText := true, laidKinds := [.data], laidTests := true, laidLooks := .later }
def LsmActsUptoCardSaid : Prop := Claim7.holds Tryz.pinned (.plain (OpenSpec.upto lsmActsSpec)) lsmActsUptoCard

/-- THE SECOND FORM's CARD OF 'leveelaw07.LsmKept'. -/
def lsmKeptUptoCard : Claim7 := { stood := { row := lsmKeptUptoRow, standIns := [], harness := (true, "a92b231652d66d230cf69887d608ffaa0a7dab0728efaaadae037840d26e850d"), looks := false }, kinds := [], alts := [], laidByText := true, laidKinds := [.data], laidTests := true, laidLooks := .later }
def LsmKeptUptoCardSaid : Prop := Claim7.holds Tryz.pinned (.plain (OpenSpec.upto lsmKeptSpec)) lsmKeptUptoCard

/-- THE SECOND FORM's CARD OF 'leveelaw07.LsmSame'. -/
def lsmSameUptoCard : Claim7 := { stood := { row := lsmSameUptoRow, standIns := [], harness := (true, "a92b231652d66d230cf69887d608ffaa0a7dab0728efaaadae037840d26e850d"), looks := false }, kinds := [], alts := [], laidByText := true, laidKinds := [.data], laidTests := true, laidLooks := .later }
def LsmSameUptoCardSaid : Prop := Claim7.holds Tryz.pinned (.plain (OpenSpec.upto lsmSameSpec)) lsmSameUptoCard

/-- THE SECOND FORM's CARD OF 'leveelaw07.LsmAgain'. -/
def lsmAgainUptoCard : Claim7 := { stood := { row := lsmAgainUptoRow, standIns := [], harness := (true, "a92b231652d66d230cf69887d608ffaa0a7dab0728efaaadae037840d26e850d"), looks := false }, kinds := [], alts := [], laidByText := true, laidKinds := [.data], laidTests := true, laidLooks := .later }
def LsmAgainUptoCardSaid : Prop := Claim7.holds Tryz.pinned (.plain (OpenSpec.upto lsmAgainSpec)) lsmAgainUptoCard

/-- THE SECOND FORM's CARD OF 'leveelaw07.LsmModel'. -/
def lsmModelUptoCard : Claim7 := { stood := { row := lsmModelUptoRow, standIns := [], harness := (true, "a92b231652d66d230cf69887d608ffaa0a7dab0728efaaadae037840d26e850d"), looks := false }, kinds := [], alts := [], laidByText := true, laidKinds := [.data], laidTests := true, laidLooks := .later }
def LsmModelUptoCardSaid : Prop := Claim7.holds Tryz.pinned (.plain (OpenSpec.upto lsmModelSpec)) lsmModelUptoCard

/-- THE SECOND FORM's CARD OF 'leveelaw07.LsmShapes'. -/
def lsmShapesUptoCard : Claim7 := { stood := { row := lsmShapesUptoRow, standIns := [], harness := (true, "a92b231652d66d230cf69887d608ffaa0a7dab0728efaaadae037840d26e850d"), looks := false }, kinds := [], alts := [], laidByText := true, laidKinds := [.data], laidTests := true, laidLooks := .later }
def LsmShapesUptoCardSaid : Prop := Claim7.holds Tryz.pinned (.plain (OpenSpec.upto lsmShapesSpec)) lsmShapesUptoCard
end Rows
end Go.Proofs.YtlnhbndghnkfmaaGreatDoor
