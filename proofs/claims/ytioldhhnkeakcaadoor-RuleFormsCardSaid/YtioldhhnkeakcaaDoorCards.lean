/-
  DERIVED. GIVEN WITH THE SEED: THE CARDS: each row of YtioldhhnkeakcaaDoorRows.lean that lists a variable, with what it lists TIED to the program's text (the seventh form; the later family's looks); each row that meets fmt, with fmt's text TOLD by the authors' own Lean function (tested against real Go, not proved from fmt's source: count such statements apart). THE CARD IS WHAT COUNTS. Prove the row's statement (the work); the ties are given (YtioldhhnkeakcaaDoorTie.lean); close each card by the builder's one call (the guide's Derived/Test/ToyasCard.lean, 'card_holds'). Laid BY PROGRAM, IN A SANDBOX (cutbox-door.mjs). By AI agents, Wed Nov 11 2026. No macro, syntax, notation, axiom, sorry.
-/
import Derived.Test.YtioldhhnkeakcaaDoorRows
import GoSem.ClaimSeven
namespace Go.Proofs.YtioldhhnkeakcaaDoor
namespace Rows

/-- THE TIED CARD OF 'leveelaw14.RuleForms'. -/
def ruleFormsCard : Claim7 := { stood := { row := ruleFormsRow, standIns := [], harness := (true, "de5fe396295aa5574cb065f6b7fc387b6890d67ee462671b9d9875458423d8d0"), looks := true }, kinds := [], alts := [], laidByText := true, laidKinds := [.data, .data, .data, .data, .sentinel, .sentinel, .data, .pinned], laidTests := true, laidLooks := .later }
def RuleFormsCardSaid : Prop := Claim7.holds Tryd.pinned (.plain (OpenSpec.ofChange ruleFormsSpec)) ruleFormsCard

/-- THE TIED CARD OF 'leveelaw14.RuleWholes'. -/
def ruleWholesCard : Claim7 := { stood := { row := ruleWholesRow, standIns := [], harness := (true, "de5fe396295aa5574cb065f6b7fc387b6890d67ee462671b9d9875458423d8d0"), looks := true }, kinds := [], alts := [], laidByText := true, laidKinds := [.data, .data, .data, .data, .sentinel, .sentinel, .data, .pinned], laidTests := true, laidLooks := .later }
def RuleWholesCardSaid : Prop := Claim7.holds Tryd.pinned (.plain (OpenSpec.ofChange ruleWholesSpec)) ruleWholesCard

/-- THE SECOND FORM's CARD OF 'leveelaw14.RuleForms'. -/
def ruleFormsUptoCard : Claim7 := { stood := { row := ruleFormsUptoRow, standIns := [], harness := (true, "de5fe396295aa5574cb065f6b7fc387b6890d67ee462671b9d9875458423d8d0"), looks := true }, kinds := [], alts := [], laidByText := true, laidKinds := [.data, .data, .data, .data, .sentinel, .sentinel, .data, .pinned], laidTests := true, laidLooks := .later }
def RuleFormsUptoCardSaid : Prop := Claim7.holds Tryd.pinned (.plain (OpenSpec.upto ruleFormsSpec)) ruleFormsUptoCard

/-- THE SECOND FORM's CARD OF 'leveelaw14.RuleWholes'. -/
def ruleWholesUptoCard : Claim7 := { stood := { row := ruleWholesUptoRow, standIns := [], harness := (true, "de5fe396295aa5574cb065f6b7fc387b6890d67ee462671b9d9875458423d8d0"), looks := true }, kinds := [], alts := [], laidByText := true, laidKinds := [.data, .data, .data, .data, .sentinel, .sentinel, .data, .pinned], laidTests := true, laidLooks := .later }
def RuleWholesUptoCardSaid : Prop := Claim7.holds Tryd.pinned (.plain (OpenSpec.upto ruleWholesSpec)) ruleWholesUptoCard
end Rows
end Go.Proofs.YtioldhhnkeakcaaDoor
