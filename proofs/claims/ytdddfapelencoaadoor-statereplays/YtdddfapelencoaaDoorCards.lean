/-
  DERIVED. GIVEN WITH THE SEED: THE CARDS: each row of YtdddfapelencoaaDoorRows.lean that lists a variable, with what it lists TIED to the program's text (the seventh form; the later family's looks); each row that meets fmt, with fmt's text TOLD by the authors' own Lean function (tested against real Go, not proved from fmt's source: count such statements apart). THE CARD IS WHAT COUNTS. Prove the row's statement (the work); the ties are given (YtdddfapelencoaaDoorTie.lean); close each card by the builder's one call (the guide's Derived/Test/ToyasCard.lean, 'card_holds'). Laid BY PROGRAM, IN A SANDBOX (cutbox-door.mjs). By AI agents, Wed Nov 11 2026. No macro, syntax, notation, axiom, sorry.
-/
import Derived.Test.YtdddfapelencoaaDoorRows
import GoSem.ClaimSeven
namespace Go.Proofs.YtdddfapelencoaaDoor
namespace Rows

/-- THE TIED CARD OF 'turnstilelaw13.StateLooks'. -/
def stateLooksCard : Claim7 := { stood := { row := stateLooksRow, standIns := [], harness := (true, "47cc2a1bb25071545a18f4532630367752e432c10a8298d7f5ba4c5d9b24d97a"), looks := true }, kinds := [], alts := [], laidByText := true, laidKinds := [.sentinel, .sentinel, .sentinel], laidTests := true, laidLooks := .later }
def StateLooksCardSaid : Prop := Claim7.holds Tryd.pinned (.plain (OpenSpec.ofChange stateLooksSpec)) stateLooksCard

/-- THE TIED CARD OF 'turnstilelaw13.StateApplies'. -/
def stateAppliesCard : Claim7 := { stood := { row := stateAppliesRow, standIns := [], harness := (true, "47cc2a1bb25071545a18f4532630367752e432c10a8298d7f5ba4c5d9b24d97a"), looks := true }, kinds := [], alts := [], laidByText := true, laidKinds := [.sentinel, .sentinel, .sentinel, .sentinel, .sentinel, .sentinel, .sentinel, .sentinel, .sentinel, .sentinel, .sentinel, .sentinel, .sentinel, .sentinel, .sentinel], laidTests := true, laidLooks := .later }
def StateAppliesCardSaid : Prop := Claim7.holds Tryd.pinned (.plain (OpenSpec.ofChange stateAppliesSpec)) stateAppliesCard

/-- THE TIED CARD OF 'turnstilelaw13.StateReplays'. -/
def stateReplaysCard : Claim7 := { stood := { row := stateReplaysRow, standIns := [], harness := (true, "47cc2a1bb25071545a18f4532630367752e432c10a8298d7f5ba4c5d9b24d97a"), looks := true }, kinds := [], alts := [], laidByText := true, laidKinds := [.sentinel, .sentinel, .sentinel, .sentinel, .sentinel, .sentinel, .sentinel, .sentinel, .sentinel, .sentinel, .sentinel, .sentinel, .sentinel, .sentinel, .sentinel], laidTests := true, laidLooks := .later }
def StateReplaysCardSaid : Prop := Claim7.holds Tryd.pinned (.plain (OpenSpec.ofChange stateReplaysSpec)) stateReplaysCard

/-- THE SECOND FORM's CARD OF 'turnstilelaw13.StateLooks'. -/
def stateLooksUptoCard : Claim7 := { stood := { row := stateLooksUptoRow, standIns := [], harness := (true, "47cc2a1bb25071545a18f4532630367752e432c10a8298d7f5ba4c5d9b24d97a"), looks := true }, kinds := [], alts := [], laidByText := true, laidKinds := [.sentinel, .sentinel, .sentinel], laidTests := true, laidLooks := .later }
def StateLooksUptoCardSaid : Prop := Claim7.holds Tryd.pinned (.plain (OpenSpec.upto stateLooksSpec)) stateLooksUptoCard

/-- THE SECOND FORM's CARD OF 'turnstilelaw13.StateApplies'. -/
def stateAppliesUptoCard : Claim7 := { stood := { row := stateAppliesUptoRow, standIns := [], harness := (true, "47cc2a1bb25071545a18f4532630367752e432c10a8298d7f5ba4c5d9b24d97a"), looks := true }, kinds := [], alts := [], laidByText := true, laidKinds := [.sentinel, .sentinel, .sentinel, .sentinel, .sentinel, .sentinel, .sentinel, .sentinel, .sentinel, .sentinel, .sentinel, .sentinel, .sentinel, .sentinel, .sentinel], laidTests := true, laidLooks := .later }
def StateAppliesUptoCardSaid : Prop := Claim7.holds Tryd.pinned (.plain (OpenSpec.upto stateAppliesSpec)) stateAppliesUptoCard

/-- THE SECOND FORM's CARD OF 'turnstilelaw13.StateReplays'. -/
def stateReplaysUptoCard : Claim7 := { stood := { row := stateReplaysUptoRow, standIns := [], harness := (true, "47cc2a1bb25071545a18f4532630367752e432c10a8298d7f5ba4c5d9b24d97a"), looks := true }, kinds := [], alts := [], laidByText := true, laidKinds := [.sentinel, .sentinel, .sentinel, .sentinel, .sentinel, .sentinel, .sentinel, .sentinel, .sentinel, .sentinel, .sentinel, .sentinel, .sentinel, .sentinel, .sentinel], laidTests := true, laidLooks := .later }
def StateReplaysUptoCardSaid : Prop := Claim7.holds Tryd.pinned (.plain (OpenSpec.upto stateReplaysSpec)) stateReplaysUptoCard
end Rows
end Go.Proofs.YtdddfapelencoaaDoor
