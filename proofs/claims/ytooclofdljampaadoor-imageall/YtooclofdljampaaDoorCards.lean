/-
  DERIVED. GIVEN WITH THE SEED: THE CARDS: each row of YtooclofdljampaaDoorRows.lean that lists a variable, with what it lists TIED to the program's text (the seventh form; the later family's looks); each row that meets fmt, with fmt's text TOLD by the authors' own Lean function (tested against real Go, not proved from fmt's source: count such statements apart). THE CARD IS WHAT COUNTS. Prove the row's statement (the work); the ties are given (YtooclofdljampaaDoorTie.lean); close each card by the builder's one call (the guide's Derived/Test/ToyasCard.lean, 'card_holds'). Laid BY PROGRAM, IN A SANDBOX (cutbox-door.mjs). By AI agents, Wed Nov 11 2026. No macro, syntax, notation, axiom, sorry.
-/
import Derived.Test.YtooclofdljampaaDoorRows
import GoSem.ClaimSeven
namespace Go.Proofs.YtooclofdljampaaDoor
namespace Rows

/-- THE TIED CARD OF 'turnstilelaw14.ImageAll'. -/
def imageAllCard : Claim7 := { stood := { row := imageAllRow, standIns := [], harness := (true, "1191aa2cef33c7881cf5f9042756861ce39726aa0ff0146b45d5fa11ec1acf2d"), looks := true }, kinds := [], alts := [], laidByText := true, laidKinds := [.data, .sentinel, .sentinel, .sentinel, .sentinel, .sentinel, .sentinel, .sentinel, .sentinel, .sentinel, .sentinel, .sentinel, .sentinel, .sentinel, .sentinel, .sentinel], laidTests := true, laidLooks := .later }
def ImageAllCardSaid : Prop := Claim7.holds Tryd.pinned (.plain (OpenSpec.ofChange imageAllSpec)) imageAllCard

/-- THE TIED CARD OF 'turnstilelaw14.ImageBack'. -/
def imageBackCard : Claim7 := { stood := { row := imageBackRow, standIns := [], harness := (true, "1191aa2cef33c7881cf5f9042756861ce39726aa0ff0146b45d5fa11ec1acf2d"), looks := true }, kinds := [], alts := [], laidByText := true, laidKinds := [.data, .sentinel, .sentinel, .sentinel, .sentinel, .sentinel, .sentinel], laidTests := true, laidLooks := .later }
def ImageBackCardSaid : Prop := Claim7.holds Tryd.pinned (.plain (OpenSpec.ofChange imageBackSpec)) imageBackCard

/-- THE TIED CARD OF 'turnstilelaw14.ImageForth'. -/
def imageForthCard : Claim7 := { stood := { row := imageForthRow, standIns := [], harness := (true, "1191aa2cef33c7881cf5f9042756861ce39726aa0ff0146b45d5fa11ec1acf2d"), looks := true }, kinds := [], alts := [], laidByText := true, laidKinds := [.data, .sentinel, .sentinel, .sentinel, .sentinel, .sentinel, .sentinel], laidTests := true, laidLooks := .later }
def ImageForthCardSaid : Prop := Claim7.holds Tryd.pinned (.plain (OpenSpec.ofChange imageForthSpec)) imageForthCard

/-- THE TIED CARD OF 'turnstilelaw14.ImageTurned'. -/
def imageTurnedCard : Claim7 := { stood := { row := imageTurnedRow, standIns := [], harness := (true, "1191aa2cef33c7881cf5f9042756861ce39726aa0ff0146b45d5fa11ec1acf2d"), looks := true }, kinds := [], alts := [], laidByText := true, laidKinds := [.data, .sentinel, .sentinel, .sentinel, .sentinel, .sentinel, .sentinel], laidTests := true, laidLooks := .later }
def ImageTurnedCardSaid : Prop := Claim7.holds Tryd.pinned (.plain (OpenSpec.ofChange imageTurnedSpec)) imageTurnedCard

/-- THE TIED CARD OF 'turnstilelaw14.ImageUnlike'. -/
def imageUnlikeCard : Claim7 := { stood := { row := imageUnlikeRow, standIns := [], harness := (true, "1191aa2cef33c7881cf5f9042756861ce39726aa0ff0146b45d5fa11ec1acf2d"), looks := true }, kinds := [], alts := [], laidByText := true, laidKinds := [.data, .sentinel, .sentinel, .sentinel, .sentinel, .sentinel, .sentinel], laidTests := true, laidLooks := .later }
def ImageUnlikeCardSaid : Prop := Claim7.holds Tryd.pinned (.plain (OpenSpec.ofChange imageUnlikeSpec)) imageUnlikeCard

/-- THE TIED CARD OF 'turnstilelaw14.ImageKeeps'. -/
def imageKeepsCard : Claim7 := { stood := { row := imageKeepsRow, standIns := [], harness := (true, "1191aa2cef33c7881cf5f9042756861ce39726aa0ff0146b45d5fa11ec1acf2d"), looks := true }, kinds := [], alts := [], laidByText := true, laidKinds := [.data, .sentinel, .sentinel, .sentinel, .sentinel, .sentinel, .sentinel], laidTests := true, laidLooks := .later }
def ImageKeepsCardSaid : Prop := Claim7.holds Tryd.pinned (.plain (OpenSpec.ofChange imageKeepsSpec)) imageKeepsCard

/-- THE SECOND FORM's CARD OF 'turnstilelaw14.ImageAll'. -/
def imageAllUptoCard : Claim7 := { stood := { row := imageAllUptoRow, standIns := [], harness := (true, "1191aa2cef33c7881cf5f9042756861ce39726aa0ff0146b45d5fa11ec1acf2d"), looks := true }, kinds := [], alts := [], laidByText := true, laidKinds := [.data, .sentinel, .sentinel, .sentinel, .sentinel, .sentinel, .sentinel, .sentinel, .sentinel, .sentinel, .sentinel, .sentinel, .sentinel, .sentinel, .sentinel, .sentinel], laidTests := true, laidLooks := .later }
def ImageAllUptoCardSaid : Prop := Claim7.holds Tryd.pinned (.plain (OpenSpec.upto imageAllSpec)) imageAllUptoCard

/-- THE SECOND FORM's CARD OF 'turnstilelaw14.ImageBack'. -/
def imageBackUptoCard : Claim7 := { stood := { row := imageBackUptoRow, standIns := [], harness := (true, "1191aa2cef33c7881cf5f9042756861ce39726aa0ff0146b45d5fa11ec1acf2d"), looks := true }, kinds := [], alts := [], laidByText := true, laidKinds := [.data, .sentinel, .sentinel, .sentinel, .sentinel, .sentinel, .sentinel], laidTests := true, laidLooks := .later }
def ImageBackUptoCardSaid : Prop := Claim7.holds Tryd.pinned (.plain (OpenSpec.upto imageBackSpec)) imageBackUptoCard

/-- THE SECOND FORM's CARD OF 'turnstilelaw14.ImageForth'. -/
def imageForthUptoCard : Claim7 := { stood := { row := imageForthUptoRow, standIns := [], harness := (true, "1191aa2cef33c7881cf5f9042756861ce39726aa0ff0146b45d5fa11ec1acf2d"), looks := true }, kinds := [], alts := [], laidByText := true, laidKinds := [.data, .sentinel, .sentinel, .sentinel, .sentinel, .sentinel, .sentinel], laidTests := true, laidLooks := .later }
def ImageForthUptoCardSaid : Prop := Claim7.holds Tryd.pinned (.plain (OpenSpec.upto imageForthSpec)) imageForthUptoCard

/-- THE SECOND FORM's CARD OF 'turnstilelaw14.ImageTurned'. -/
def imageTurnedUptoCard : Claim7 := { stood := { row := imageTurnedUptoRow, standIns := [], harness := (true, "1191aa2cef33c7881cf5f9042756861ce39726aa0ff0146b45d5fa11ec1acf2d"), looks := true }, kinds := [], alts := [], laidByText := true, laidKinds := [.data, .sentinel, .sentinel, .sentinel, .sentinel, .sentinel, .sentinel], laidTests := true, laidLooks := .later }
def ImageTurnedUptoCardSaid : Prop := Claim7.holds Tryd.pinned (.plain (OpenSpec.upto imageTurnedSpec)) imageTurnedUptoCard

/-- THE SECOND FORM's CARD OF 'turnstilelaw14.ImageUnlike'. -/
def imageUnlikeUptoCard : Claim7 := { stood := { row := imageUnlikeUptoRow, standIns := [], harness := (true, "1191aa2cef33c7881cf5f9042756861ce39726aa0ff0146b45d5fa11ec1acf2d"), looks := true }, kinds := [], alts := [], laidByText := true, laidKinds := [.data, .sentinel, .sentinel, .sentinel, .sentinel, .sentinel, .sentinel], laidTests := true, laidLooks := .later }
def ImageUnlikeUptoCardSaid : Prop := Claim7.holds Tryd.pinned (.plain (OpenSpec.upto imageUnlikeSpec)) imageUnlikeUptoCard

/-- THE SECOND FORM's CARD OF 'turnstilelaw14.ImageKeeps'. -/
def imageKeepsUptoCard : Claim7 := { stood := { row := imageKeepsUptoRow, standIns := [], harness := (true, "1191aa2cef33c7881cf5f9042756861ce39726aa0ff0146b45d5fa11ec1acf2d"), looks := true }, kinds := [], alts := [], laidByText := true, laidKinds := [.data, .sentinel, .sentinel, .sentinel, .sentinel, .sentinel, .sentinel], laidTests := true, laidLooks := .later }
def ImageKeepsUptoCardSaid : Prop := Claim7.holds Tryd.pinned (.plain (OpenSpec.upto imageKeepsSpec)) imageKeepsUptoCard
end Rows
end Go.Proofs.YtooclofdljampaaDoor
