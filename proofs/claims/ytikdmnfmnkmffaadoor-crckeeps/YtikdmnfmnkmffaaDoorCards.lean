/-
  DERIVED. GIVEN WITH THE SEED: THE CARDS: each row of YtikdmnfmnkmffaaDoorRows.lean that lists a variable, with what it lists TIED to the program's text (the seventh form; the later family's looks); each row that meets fmt, with fmt's text TOLD by the authors' own Lean function (tested against real Go, not proved from fmt's source: count such statements apart). THE CARD IS WHAT COUNTS. Prove the row's statement (the work); the ties are given (YtikdmnfmnkmffaaDoorTie.lean); close each card by the builder's one call (the guide's Derived/Test/ToyasCard.lean, 'card_holds'). Laid BY PROGRAM, IN A SANDBOX (cutbox-door.mjs). By AI agents, Wed Nov 11 2026. No macro, syntax, notation, axiom, sorry.
-/
import Derived.Test.YtikdmnfmnkmffaaDoorRows
import GoSem.ClaimSeven
namespace Go.Proofs.YtikdmnfmnkmffaaDoor
namespace Rows

/-- THE TIED CARD OF 'turnstilelaw02.CrcAll'. -/
def crcAllCard : Claim7 := { stood := { row := crcAllRow, standIns := [], harness := (true, "f7480498daad18e1a9750be9d6a3f791cc0acc6424d3936b5f814052b602106c"), looks := false }, kinds := [], alts := [], laidByText := true, laidKinds := [.data], laidTests := true, laidLooks := .later }
def CrcAllCardSaid : Prop := Claim7.holds Tryd.pinned (.plain (OpenSpec.ofChange crcAllSpec)) crcAllCard

/-- THE TIED CARD OF 'turnstilelaw02.CrcCuts'. -/
def crcCutsCard : Claim7 := { stood := { row := crcCutsRow, standIns := [], harness := (true, "f7480498daad18e1a9750be9d6a3f791cc0acc6424d3936b5f814052b602106c"), looks := false }, kinds := [], alts := [], laidByText := true, laidKinds := [.data], laidTests := true, laidLooks := .later }
def CrcCutsCardSaid : Prop := Claim7.holds Tryd.pinned (.plain (OpenSpec.ofChange crcCutsSpec)) crcCutsCard

/-- THE TIED CARD OF 'turnstilelaw02.CrcTurns'. -/
def crcTurnsCard : Claim7 := { stood := { row := crcTurnsRow, standIns := [], harness := (true, "f7480498daad18e1a9750be9d6a3f791cc0acc6424d3936b5f814052b602106c"), looks := false }, kinds := [], alts := [], laidByText := true, laidKinds := [.data], laidTests := true, laidLooks := .later }
def CrcTurnsCardSaid : Prop := Claim7.holds Tryd.pinned (.plain (OpenSpec.ofChange crcTurnsSpec)) crcTurnsCard

/-- THE TIED CARD OF 'turnstilelaw02.CrcMoves'. -/
def crcMovesCard : Claim7 := { stood := { row := crcMovesRow, standIns := [], harness := (true, "f7480498daad18e1a9750be9d6a3f791cc0acc6424d3936b5f814052b602106c"), looks := false }, kinds := [], alts := [], laidByText := true, laidKinds := [.data], laidTests := true, laidLooks := .later }
def CrcMovesCardSaid : Prop := Claim7.holds Tryd.pinned (.plain (OpenSpec.ofChange crcMovesSpec)) crcMovesCard

/-- THE TIED CARD OF 'turnstilelaw02.CrcZeros'. -/
def crcZerosCard : Claim7 := { stood := { row := crcZerosRow, standIns := [], harness := (true, "f7480498daad18e1a9750be9d6a3f791cc0acc6424d3936b5f814052b602106c"), looks := false }, kinds := [], alts := [], laidByText := true, laidKinds := [.data], laidTests := true, laidLooks := .later }
def CrcZerosCardSaid : Prop := Claim7.holds Tryd.pinned (.plain (OpenSpec.ofChange crcZerosSpec)) crcZerosCard

/-- THE TIED CARD OF 'turnstilelaw02.CrcKeeps'. -/
def crcKeepsCard : Claim7 := { stood := { row := crcKeepsRow, standIns := [], harness := (true, "f7480498daad18e1a9750be9d6a3f791cc0acc6424d3936b5f814052b602106c"), looks := false }, kinds := [], alts := [], laidByText := true, laidKinds := [.data], laidTests := true, laidLooks := .later }
def CrcKeepsCardSaid : Prop := Claim7.holds Tryd.pinned (.plain (OpenSpec.ofChange crcKeepsSpec)) crcKeepsCard

/-- THE SECOND FORM's CARD OF 'turnstilelaw02.CrcAll'. -/
def crcAllUptoCard : Claim7 := { stood := { row := crcAllUptoRow, standIns := [], harness := (true, "f7480498daad18e1a9750be9d6a3f791cc0acc6424d3936b5f814052b602106c"), looks := false }, kinds := [], alts := [], laidByText := true, laidKinds := [.data], laidTests := true, laidLooks := .later }
def CrcAllUptoCardSaid : Prop := Claim7.holds Tryd.pinned (.plain (OpenSpec.upto crcAllSpec)) crcAllUptoCard

/-- THE SECOND FORM's CARD OF 'turnstilelaw02.CrcCuts'. -/
def crcCutsUptoCard : Claim7 := { stood := { row := crcCutsUptoRow, standIns := [], harness := (true, "f7480498daad18e1a9750be9d6a3f791cc0acc6424d3936b5f814052b602106c"), looks := false }, kinds := [], alts := [], laidByText := true, laidKinds := [.data], laidTests := true, laidLooks := .later }
def CrcCutsUptoCardSaid : Prop := Claim7.holds Tryd.pinned (.plain (OpenSpec.upto crcCutsSpec)) crcCutsUptoCard

/-- THE SECOND FORM's CARD OF 'turnstilelaw02.CrcTurns'. -/
def crcTurnsUptoCard : Claim7 := { stood := { row := crcTurnsUptoRow, standIns := [], harness := (true, "f7480498daad18e1a9750be9d6a3f791cc0acc6424d3936b5f814052b602106c"), looks := false }, kinds := [], alts := [], laidByText := true, laidKinds := [.data], laidTests := true, laidLooks := .later }
def CrcTurnsUptoCardSaid : Prop := Claim7.holds Tryd.pinned (.plain (OpenSpec.upto crcTurnsSpec)) crcTurnsUptoCard

/-- THE SECOND FORM's CARD OF 'turnstilelaw02.CrcMoves'. -/
def crcMovesUptoCard : Claim7 := { stood := { row := crcMovesUptoRow, standIns := [], harness := (true, "f7480498daad18e1a9750be9d6a3f791cc0acc6424d3936b5f814052b602106c"), looks := false }, kinds := [], alts := [], laidByText := true, laidKinds := [.data], laidTests := true, laidLooks := .later }
def CrcMovesUptoCardSaid : Prop := Claim7.holds Tryd.pinned (.plain (OpenSpec.upto crcMovesSpec)) crcMovesUptoCard

/-- THE SECOND FORM's CARD OF 'turnstilelaw02.CrcZeros'. -/
def crcZerosUptoCard : Claim7 := { stood := { row := crcZerosUptoRow, standIns := [], harness := (true, "f7480498daad18e1a9750be9d6a3f791cc0acc6424d3936b5f814052b602106c"), looks := false }, kinds := [], alts := [], laidByText := true, laidKinds := [.data], laidTests := true, laidLooks := .later }
def CrcZerosUptoCardSaid : Prop := Claim7.holds Tryd.pinned (.plain (OpenSpec.upto crcZerosSpec)) crcZerosUptoCard

/-- THE SECOND FORM's CARD OF 'turnstilelaw02.CrcKeeps'. -/
def crcKeepsUptoCard : Claim7 := { stood := { row := crcKeepsUptoRow, standIns := [], harness := (true, "f7480498daad18e1a9750be9d6a3f791cc0acc6424d3936b5f814052b602106c"), looks := false }, kinds := [], alts := [], laidByText := true, laidKinds := [.data], laidTests := true, laidLooks := .later }
def CrcKeepsUptoCardSaid : Prop := Claim7.holds Tryd.pinned (.plain (OpenSpec.upto crcKeepsSpec)) crcKeepsUptoCard
end Rows
end Go.Proofs.YtikdmnfmnkmffaaDoor
