/-
  DERIVED. GIVEN WITH THE SEED: THE CARDS: each row of YtffldmeocmemeaaDoorRows.lean that lists a variable, with what it lists TIED to the program's text (the seventh form; the later family's looks); each row that meets fmt, with fmt's text TOLD by the authors' own Lean function (tested against real Go, not proved from fmt's source: count such statements apart). THE CARD IS WHAT COUNTS. Prove the row's statement (the work); the ties are given (YtffldmeocmemeaaDoorTie.lean); close each card by the builder's one call (the guide's Derived/Test/ToyasCard.lean, 'card_holds'). Laid BY PROGRAM, IN A SANDBOX (cutbox-door.mjs). By AI agents, Wed Nov 11 2026. No macro, syntax, notation, axiom, sorry.
-/
import Derived.Test.YtffldmeocmemeaaDoorRows
import GoSem.ClaimSeven
namespace Go.Proofs.YtffldmeocmemeaaDoor
namespace Rows

/-- THE TIED CARD OF 'turnstilelaw13.StateLooks'. -/
def stateLooksCard : Claim7 := { stood := { row := stateLooksRow, standIns := [], harness := (true, "a1c0293d739e9e88ab775cc3df827810a4a2114e2deba760caf624064f01c79f"), looks := true }, kinds := [], alts := [], laidByText := true, laidKinds := [.sentinel, .sentinel, .sentinel], laidTests := true, laidLooks := .later }
def StateLooksCardSaid : Prop := Claim7.holds Tryd.pinned (.plain (OpenSpec.ofChange stateLooksSpec)) stateLooksCard

/-- THE TIED CARD OF 'turnstilelaw13.StateApplies'. -/
def stateAppliesCard : Claim7 := { stood := { row := stateAppliesRow, standIns := [], harness := (true, "a1c0293d739e9e88ab775cc3df827810a4a2114e2deba760caf624064f01c79f"), looks := true }, kinds := [], alts := [], laidByText := true, laidKinds := [.sentinel, .sentinel, .sentinel, .sentinel, .sentinel, .sentinel, .sentinel, .sentinel, .sentinel, .sentinel, .sentinel, .sentinel, .sentinel, .sentinel, .sentinel], laidTests := true, laidLooks := .later }
def StateAppliesCardSaid : Prop := Claim7.holds Tryd.pinned (.plain (OpenSpec.ofChange stateAppliesSpec)) stateAppliesCard

/-- THE TIED CARD OF 'turnstilelaw13.StateReplays'. -/
def stateReplaysCard : Claim7 := { stood := { row := stateReplaysRow, standIns := [], harness := (true, "a1c0293d739e9e88ab775cc3df827810a4a2114e2deba760caf624064f01c79f"), looks := true }, kinds := [], alts := [], laidByText := true, laidKinds := [.sentinel, .sentinel, .sentinel, .sentinel, .sentinel, .sentinel, .sentinel, .sentinel, .sentinel, .sentinel, .sentinel, .sentinel, .sentinel, .sentinel, .sentinel], laidTests := true, laidLooks := .later }
def StateReplaysCardSaid : Prop := Claim7.holds Tryd.pinned (.plain (OpenSpec.ofChange stateReplaysSpec)) stateReplaysCard

/-- THE TIED CARD OF 'turnstilelaw13.StatePieces'. -/
def statePiecesCard : Claim7 := { stood := { row := statePiecesRow, standIns := [], harness := (true, "a1c0293d739e9e88ab775cc3df827810a4a2114e2deba760caf624064f01c79f"), looks := true }, kinds := [], alts := [], laidByText := true, laidKinds := [.sentinel, .sentinel, .sentinel], laidTests := true, laidLooks := .later }
def StatePiecesCardSaid : Prop := Claim7.holds Tryd.pinned (.plain (OpenSpec.ofChange statePiecesSpec)) statePiecesCard

/-- THE TIED CARD OF 'turnstilelaw13.StateRises'. -/
def stateRisesCard : Claim7 := { stood := { row := stateRisesRow, standIns := [], harness := (true, "a1c0293d739e9e88ab775cc3df827810a4a2114e2deba760caf624064f01c79f"), looks := true }, kinds := [], alts := [], laidByText := true, laidKinds := [.sentinel, .sentinel, .sentinel], laidTests := true, laidLooks := .later }
def StateRisesCardSaid : Prop := Claim7.holds Tryd.pinned (.plain (OpenSpec.ofChange stateRisesSpec)) stateRisesCard

/-- THE TIED CARD OF 'turnstilelaw13.StateFinds'. -/
def stateFindsCard : Claim7 := { stood := { row := stateFindsRow, standIns := [], harness := (true, "a1c0293d739e9e88ab775cc3df827810a4a2114e2deba760caf624064f01c79f"), looks := true }, kinds := [], alts := [], laidByText := true, laidKinds := [.sentinel, .sentinel, .sentinel], laidTests := true, laidLooks := .later }
def StateFindsCardSaid : Prop := Claim7.holds Tryd.pinned (.plain (OpenSpec.ofChange stateFindsSpec)) stateFindsCard

/-- THE TIED CARD OF 'turnstilelaw13.StateKeeps'. -/
def stateKeepsCard : Claim7 := { stood := { row := stateKeepsRow, standIns := [], harness := (true, "a1c0293d739e9e88ab775cc3df827810a4a2114e2deba760caf624064f01c79f"), looks := true }, kinds := [], alts := [], laidByText := true, laidKinds := [.sentinel, .sentinel, .sentinel], laidTests := true, laidLooks := .later }
def StateKeepsCardSaid : Prop := Claim7.holds Tryd.pinned (.plain (OpenSpec.ofChange stateKeepsSpec)) stateKeepsCard

/-- THE SECOND FORM's CARD OF 'turnstilelaw13.StateLooks'. -/
def stateLooksUptoCard : Claim7 := { stood := { row := stateLooksUptoRow, standIns := [], harness := (true, "a1c0293d739e9e88ab775cc3df827810a4a2114e2deba760caf624064f01c79f"), looks := true }, kinds := [], alts := [], laidByText := true, laidKinds := [.sentinel, .sentinel, .sentinel], laidTests := true, laidLooks := .later }
def StateLooksUptoCardSaid : Prop := Claim7.holds Tryd.pinned (.plain (OpenSpec.upto stateLooksSpec)) stateLooksUptoCard

/-- THE SECOND FORM's CARD OF 'turnstilelaw13.StateApplies'. -/
def stateAppliesUptoCard : Claim7 := { stood := { row := stateAppliesUptoRow, standIns := [], harness := (true, "a1c0293d739e9e88ab775cc3df827810a4a2114e2deba760caf624064f01c79f"), looks := true }, kinds := [], alts := [], laidByText := true, laidKinds := [.sentinel, .sentinel, .sentinel, .sentinel, .sentinel, .sentinel, .sentinel, .sentinel, .sentinel, .sentinel, .sentinel, .sentinel, .sentinel, .sentinel, .sentinel], laidTests := true, laidLooks := .later }
def StateAppliesUptoCardSaid : Prop := Claim7.holds Tryd.pinned (.plain (OpenSpec.upto stateAppliesSpec)) stateAppliesUptoCard

/-- THE SECOND FORM's CARD OF 'turnstilelaw13.StateReplays'. -/
def stateReplaysUptoCard : Claim7 := { stood := { row := stateReplaysUptoRow, standIns := [], harness := (true, "a1c0293d739e9e88ab775cc3df827810a4a2114e2deba760caf624064f01c79f"), looks := true }, kinds := [], alts := [], laidByText := true, laidKinds := [.sentinel, .sentinel, .sentinel, .sentinel, .sentinel, .sentinel, .sentinel, .sentinel, .sentinel, .sentinel, .sentinel, .sentinel, .sentinel, .sentinel, .sentinel], laidTests := true, laidLooks := .later }
def StateReplaysUptoCardSaid : Prop := Claim7.holds Tryd.pinned (.plain (OpenSpec.upto stateReplaysSpec)) stateReplaysUptoCard

/-- THE SECOND FORM's CARD OF 'turnstilelaw13.StatePieces'. -/
def statePiecesUptoCard : Claim7 := { stood := { row := statePiecesUptoRow, standIns := [], harness := (true, "a1c0293d739e9e88ab775cc3df827810a4a2114e2deba760caf624064f01c79f"), looks := true }, kinds := [], alts := [], laidByText := true, laidKinds := [.sentinel, .sentinel, .sentinel], laidTests := true, laidLooks := .later }
def StatePiecesUptoCardSaid : Prop := Claim7.holds Tryd.pinned (.plain (OpenSpec.upto statePiecesSpec)) statePiecesUptoCard

/-- THE SECOND FORM's CARD OF 'turnstilelaw13.StateRises'. -/
def stateRisesUptoCard : Claim7 := { stood := { row := stateRisesUptoRow, standIns := [], harness := (true, "a1c0293d739e9e88ab775cc3df827810a4a2114e2deba760caf624064f01c79f"), looks := true }, kinds := [], alts := [], laidByText := true, laidKinds := [.sentinel, .sentinel, .sentinel], laidTests := true, laidLooks := .later }
def StateRisesUptoCardSaid : Prop := Claim7.holds Tryd.pinned (.plain (OpenSpec.upto stateRisesSpec)) stateRisesUptoCard

/-- THE SECOND FORM's CARD OF 'turnstilelaw13.StateFinds'. -/
def stateFindsUptoCard : Claim7 := { stood := { row := stateFindsUptoRow, standIns := [], harness := (true, "a1c0293d739e9e88ab775cc3df827810a4a2114e2deba760caf624064f01c79f"), looks := true }, kinds := [], alts := [], laidByText := true, laidKinds := [.sentinel, .sentinel, .sentinel], laidTests := true, laidLooks := .later }
def StateFindsUptoCardSaid : Prop := Claim7.holds Tryd.pinned (.plain (OpenSpec.upto stateFindsSpec)) stateFindsUptoCard

/-- THE SECOND FORM's CARD OF 'turnstilelaw13.StateKeeps'. -/
def stateKeepsUptoCard : Claim7 := { stood := { row := stateKeepsUptoRow, standIns := [], harness := (true, "a1c0293d739e9e88ab775cc3df827810a4a2114e2deba760caf624064f01c79f"), looks := true }, kinds := [], alts := [], laidByText := true, laidKinds := [.sentinel, .sentinel, .sentinel], laidTests := true, laidLooks := .later }
def StateKeepsUptoCardSaid : Prop := Claim7.holds Tryd.pinned (.plain (OpenSpec.upto stateKeepsSpec)) stateKeepsUptoCard
end Rows
end Go.Proofs.YtffldmeocmemeaaDoor
