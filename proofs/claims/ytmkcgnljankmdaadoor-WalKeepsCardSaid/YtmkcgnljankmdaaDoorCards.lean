/-
  DERIVED. GIVEN WITH THE SEED: THE CARDS: each row of YtmkcgnljankmdaaDoorRows.lean that lists a variable, with what it lists TIED to the program's text (the seventh form; the later family's looks); each row that meets fmt, with fmt's text TOLD by the authors' own Lean function (tested against real Go, not proved from fmt's source: count such statements apart). THE CARD IS WHAT COUNTS. Prove the row's statement (the work); the ties are given (YtmkcgnljankmdaaDoorTie.lean); close each card by the builder's one call (the guide's Derived/Test/ToyasCard.lean, 'card_holds'). Laid BY PROGRAM, IN A SANDBOX (cutbox-door.mjs). By AI agents, Wed Nov 11 2026. No macro, syntax, notation, axiom, sorry.
-/
import Derived.Test.YtmkcgnljankmdaaDoorRows
import GoSem.ClaimSeven
namespace Go.Proofs.YtmkcgnljankmdaaDoor
namespace Rows

/-- THE TIED CARD OF 'leveelaw05.WalOpens'. -/
def walOpensCard : Claim7 := { stood := { row := walOpensRow, standIns := [], harness := (true, "f2cc913a317ddfad57c6e48be461c3719a3331a03039d54896a0b81fc8b7ca5c"), looks := false }, kinds := [], alts := [], laidByText := true, laidKinds := [.data], laidTests := true, laidLooks := .later }
def WalOpensCardSaid : Prop := Claim7.holds Tryd.pinned (.plain (OpenSpec.ofChange walOpensSpec)) walOpensCard

/-- THE TIED CARD OF 'leveelaw05.WalKeeps'. -/
def walKeepsCard : Claim7 := { stood := { row := walKeepsRow, standIns := [], harness := (true, "f2cc913a317ddfad57c6e48be461c3719a3331a03039d54896a0b81fc8b7ca5c"), looks := false }, kinds := [], alts := [], laidByText := true, laidKinds := [.data], laidTests := true, laidLooks := .later }
def WalKeepsCardSaid : Prop := Claim7.holds Tryd.pinned (.plain (OpenSpec.ofChange walKeepsSpec)) walKeepsCard

/-- THE TIED CARD OF 'leveelaw05.WalMends'. -/
def walMendsCard : Claim7 := { stood := { row := walMendsRow, standIns := [], harness := (true, "f2cc913a317ddfad57c6e48be461c3719a3331a03039d54896a0b81fc8b7ca5c"), looks := false }, kinds := [], alts := [], laidByText := true, laidKinds := [.data], laidTests := true, laidLooks := .later }
def WalMendsCardSaid : Prop := Claim7.holds Tryd.pinned (.plain (OpenSpec.ofChange walMendsSpec)) walMendsCard

/-- THE TIED CARD OF 'leveelaw05.WalOne'. -/
def walOneCard : Claim7 := { stood := { row := walOneRow, standIns := [], harness := (true, "f2cc913a317ddfad57c6e48be461c3719a3331a03039d54896a0b81fc8b7ca5c"), looks := false }, kinds := [], alts := [], laidByText := true, laidKinds := [.data], laidTests := true, laidLooks := .later }
def WalOneCardSaid : Prop := Claim7.holds Tryd.pinned (.plain (OpenSpec.ofChange walOneSpec)) walOneCard

/-- THE TIED CARD OF 'leveelaw05.WalGone'. -/
def walGoneCard : Claim7 := { stood := { row := walGoneRow, standIns := [], harness := (true, "f2cc913a317ddfad57c6e48be461c3719a3331a03039d54896a0b81fc8b7ca5c"), looks := false }, kinds := [], alts := [], laidByText := true, laidKinds := [.data], laidTests := true, laidLooks := .later }
def WalGoneCardSaid : Prop := Claim7.holds Tryd.pinned (.plain (OpenSpec.ofChange walGoneSpec)) walGoneCard

/-- THE SECOND FORM's CARD OF 'leveelaw05.WalOpens'. -/
def walOpensUptoCard : Claim7 := { stood := { row := walOpensUptoRow, standIns := [], harness := (true, "f2cc913a317ddfad57c6e48be461c3719a3331a03039d54896a0b81fc8b7ca5c"), looks := false }, kinds := [], alts := [], laidByText := true, laidKinds := [.data], laidTests := true, laidLooks := .later }
def WalOpensUptoCardSaid : Prop := Claim7.holds Tryd.pinned (.plain (OpenSpec.upto walOpensSpec)) walOpensUptoCard

/-- THE SECOND FORM's CARD OF 'leveelaw05.WalKeeps'. -/
def walKeepsUptoCard : Claim7 := { stood := { row := walKeepsUptoRow, standIns := [], harness := (true, "f2cc913a317ddfad57c6e48be461c3719a3331a03039d54896a0b81fc8b7ca5c"), looks := false }, kinds := [], alts := [], laidByText := true, laidKinds := [.data], laidTests := true, laidLooks := .later }
def WalKeepsUptoCardSaid : Prop := Claim7.holds Tryd.pinned (.plain (OpenSpec.upto walKeepsSpec)) walKeepsUptoCard

/-- THE SECOND FORM's CARD OF 'leveelaw05.WalMends'. -/
def walMendsUptoCard : Claim7 := { stood := { row := walMendsUptoRow, standIns := [], harness := (true, "f2cc913a317ddfad57c6e48be461c3719a3331a03039d54896a0b81fc8b7ca5c"), looks := false }, kinds := [], alts := [], laidByText := true, laidKinds := [.data], laidTests := true, laidLooks := .later }
def WalMendsUptoCardSaid : Prop := Claim7.holds Tryd.pinned (.plain (OpenSpec.upto walMendsSpec)) walMendsUptoCard

/-- THE SECOND FORM's CARD OF 'leveelaw05.WalOne'. -/
def walOneUptoCard : Claim7 := { stood := { row := walOneUptoRow, standIns := [], harness := (true, "f2cc913a317ddfad57c6e48be461c3719a3331a03039d54896a0b81fc8b7ca5c"), looks := false }, kinds := [], alts := [], laidByText := true, laidKinds := [.data], laidTests := true, laidLooks := .later }
def WalOneUptoCardSaid : Prop := Claim7.holds Tryd.pinned (.plain (OpenSpec.upto walOneSpec)) walOneUptoCard

/-- THE SECOND FORM's CARD OF 'leveelaw05.WalGone'. -/
def walGoneUptoCard : Claim7 := { stood := { row := walGoneUptoRow, standIns := [], harness := (true, "f2cc913a317ddfad57c6e48be461c3719a3331a03039d54896a0b81fc8b7ca5c"), looks := false }, kinds := [], alts := [], laidByText := true, laidKinds := [.data], laidTests := true, laidLooks := .later }
def WalGoneUptoCardSaid : Prop := Claim7.holds Tryd.pinned (.plain (OpenSpec.upto walGoneSpec)) walGoneUptoCard
end Rows
end Go.Proofs.YtmkcgnljankmdaaDoor
