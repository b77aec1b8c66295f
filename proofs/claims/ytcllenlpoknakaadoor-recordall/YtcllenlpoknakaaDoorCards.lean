/-
  DERIVED. GIVEN WITH THE SEED: THE CARDS: each row of YtcllenlpoknakaaDoorRows.lean that lists a variable, with what it lists TIED to the program's text (the seventh form; the later family's looks); each row that meets fmt, with fmt's text TOLD by the authors' own Lean function (tested against real Go, not proved from fmt's source: count such statements apart). THE CARD IS WHAT COUNTS. Prove the row's statement (the work); the ties are given (YtcllenlpoknakaaDoorTie.lean); close each card by the builder's one call (the guide's Derived/Test/ToyasCard.lean, 'card_holds'). Laid BY PROGRAM, IN A SANDBOX (cutbox-door.mjs). By AI agents, Wed Nov 11 2026. No macro, syntax, notation, axiom, sorry.
-/
import Derived.Test.YtcllenlpoknakaaDoorRows
import GoSem.ClaimSeven
namespace Go.Proofs.YtcllenlpoknakaaDoor
namespace Rows

/-- THE TIED CARD OF 'turnstilelaw11.RecordAll'. -/
def recordAllCard : Claim7 := { stood := { row := recordAllRow, standIns := [], harness := (true, "96f042e7dc055aafa5ad6e39008bc2a0f6c06ba6cd45be050ba31f1c3b9a3fe9"), looks := true }, kinds := [], alts := [], laidByText := true, laidKinds := [.sentinel, .sentinel, .sentinel, .sentinel, .sentinel, .sentinel, .sentinel, .sentinel, .sentinel, .sentinel, .sentinel, .sentinel, .sentinel, .sentinel, .sentinel], laidTests := true, laidLooks := .later }
def RecordAllCardSaid : Prop := Claim7.holds Tryd.pinned (.plain (OpenSpec.ofChange recordAllSpec)) recordAllCard

/-- THE TIED CARD OF 'turnstilelaw11.RecordBack'. -/
def recordBackCard : Claim7 := { stood := { row := recordBackRow, standIns := [], harness := (true, "96f042e7dc055aafa5ad6e39008bc2a0f6c06ba6cd45be050ba31f1c3b9a3fe9"), looks := true }, kinds := [], alts := [], laidByText := true, laidKinds := [.sentinel, .sentinel, .sentinel, .sentinel, .sentinel], laidTests := true, laidLooks := .later }
def RecordBackCardSaid : Prop := Claim7.holds Tryd.pinned (.plain (OpenSpec.ofChange recordBackSpec)) recordBackCard

/-- THE TIED CARD OF 'turnstilelaw11.RecordForth'. -/
def recordForthCard : Claim7 := { stood := { row := recordForthRow, standIns := [], harness := (true, "96f042e7dc055aafa5ad6e39008bc2a0f6c06ba6cd45be050ba31f1c3b9a3fe9"), looks := true }, kinds := [], alts := [], laidByText := true, laidKinds := [.sentinel, .sentinel, .sentinel, .sentinel, .sentinel], laidTests := true, laidLooks := .later }
def RecordForthCardSaid : Prop := Claim7.holds Tryd.pinned (.plain (OpenSpec.ofChange recordForthSpec)) recordForthCard

/-- THE TIED CARD OF 'turnstilelaw11.RecordCuts'. -/
def recordCutsCard : Claim7 := { stood := { row := recordCutsRow, standIns := [], harness := (true, "96f042e7dc055aafa5ad6e39008bc2a0f6c06ba6cd45be050ba31f1c3b9a3fe9"), looks := true }, kinds := [], alts := [], laidByText := true, laidKinds := [.sentinel, .sentinel, .sentinel, .sentinel, .sentinel], laidTests := true, laidLooks := .later }
def RecordCutsCardSaid : Prop := Claim7.holds Tryd.pinned (.plain (OpenSpec.ofChange recordCutsSpec)) recordCutsCard

/-- THE TIED CARD OF 'turnstilelaw11.RecordValid'. -/
def recordValidCard : Claim7 := { stood := { row := recordValidRow, standIns := [], harness := (true, "96f042e7dc055aafa5ad6e39008bc2a0f6c06ba6cd45be050ba31f1c3b9a3fe9"), looks := true }, kinds := [], alts := [], laidByText := true, laidKinds := [.sentinel, .sentinel, .sentinel, .sentinel, .sentinel], laidTests := true, laidLooks := .later }
def RecordValidCardSaid : Prop := Claim7.holds Tryd.pinned (.plain (OpenSpec.ofChange recordValidSpec)) recordValidCard

/-- THE TIED CARD OF 'turnstilelaw11.RecordKeeps'. -/
def recordKeepsCard : Claim7 := { stood := { row := recordKeepsRow, standIns := [], harness := (true, "96f042e7dc055aafa5ad6e39008bc2a0f6c06ba6cd45be050ba31f1c3b9a3fe9"), looks := true }, kinds := [], alts := [], laidByText := true, laidKinds := [.sentinel, .sentinel, .sentinel, .sentinel, .sentinel], laidTests := true, laidLooks := .later }
def RecordKeepsCardSaid : Prop := Claim7.holds Tryd.pinned (.plain (OpenSpec.ofChange recordKeepsSpec)) recordKeepsCard

/-- THE SECOND FORM's CARD OF 'turnstilelaw11.RecordAll'. -/
def recordAllUptoCard : Claim7 := { stood := { row := recordAllUptoRow, standIns := [], harness := (true, "96f042e7dc055aafa5ad6e39008bc2a0f6c06ba6cd45be050ba31f1c3b9a3fe9"), looks := true }, kinds := [], alts := [], laidByText := true, laidKinds := [.sentinel, .sentinel, .sentinel, .sentinel, .sentinel, .sentinel, .sentinel, .sentinel, .sentinel, .sentinel, .sentinel, .sentinel, .sentinel, .sentinel, .sentinel], laidTests := true, laidLooks := .later }
def RecordAllUptoCardSaid : Prop := Claim7.holds Tryd.pinned (.plain (OpenSpec.upto recordAllSpec)) recordAllUptoCard

/-- THE SECOND FORM's CARD OF 'turnstilelaw11.RecordBack'. -/
def recordBackUptoCard : Claim7 := { stood := { row := recordBackUptoRow, standIns := [], harness := (true, "96f042e7dc055aafa5ad6e39008bc2a0f6c06ba6cd45be050ba31f1c3b9a3fe9"), looks := true }, kinds := [], alts := [], laidByText := true, laidKinds := [.sentinel, .sentinel, .sentinel, .sentinel, .sentinel], laidTests := true, laidLooks := .later }
def RecordBackUptoCardSaid : Prop := Claim7.holds Tryd.pinned (.plain (OpenSpec.upto recordBackSpec)) recordBackUptoCard

/-- THE SECOND FORM's CARD OF 'turnstilelaw11.RecordForth'. -/
def recordForthUptoCard : Claim7 := { stood := { row := recordForthUptoRow, standIns := [], harness := (true, "96f042e7dc055aafa5ad6e39008bc2a0f6c06ba6cd45be050ba31f1c3b9a3fe9"), looks := true }, kinds := [], alts := [], laidByText := true, laidKinds := [.sentinel, .sentinel, .sentinel, .sentinel, .sentinel], laidTests := true, laidLooks := .later }
def RecordForthUptoCardSaid : Prop := Claim7.holds Tryd.pinned (.plain (OpenSpec.upto recordForthSpec)) recordForthUptoCard

/-- THE SECOND FORM's CARD OF 'turnstilelaw11.RecordCuts'. -/
def recordCutsUptoCard : Claim7 := { stood := { row := recordCutsUptoRow, standIns := [], harness := (true, "96f042e7dc055aafa5ad6e39008bc2a0f6c06ba6cd45be050ba31f1c3b9a3fe9"), looks := true }, kinds := [], alts := [], laidByText := true, laidKinds := [.sentinel, .sentinel, .sentinel, .sentinel, .sentinel], laidTests := true, laidLooks := .later }
def RecordCutsUptoCardSaid : Prop := Claim7.holds Tryd.pinned (.plain (OpenSpec.upto recordCutsSpec)) recordCutsUptoCard

/-- THE SECOND FORM's CARD OF 'turnstilelaw11.RecordValid'. -/
def recordValidUptoCard : Claim7 := { stood := { row := recordValidUptoRow, standIns := [], harness := (true, "96f042e7dc055aafa5ad6e39008bc2a0f6c06ba6cd45be050ba31f1c3b9a3fe9"), looks := true }, kinds := [], alts := [], laidByText := true, laidKinds := [.sentinel, .sentinel, .sentinel, .sentinel, .sentinel], laidTests := true, laidLooks := .later }
def RecordValidUptoCardSaid : Prop := Claim7.holds Tryd.pinned (.plain (OpenSpec.upto recordValidSpec)) recordValidUptoCard

/-- THE SECOND FORM's CARD OF 'turnstilelaw11.RecordKeeps'. -/
def recordKeepsUptoCard : Claim7 := { stood := { row := recordKeepsUptoRow, standIns := [], harness := (true, "96f042e7dc055aafa5ad6e39008bc2a0f6c06ba6cd45be050ba31f1c3b9a3fe9"), looks := true }, kinds := [], alts := [], laidByText := true, laidKinds := [.sentinel, .sentinel, .sentinel, .sentinel, .sentinel], laidTests := true, laidLooks := .later }
def RecordKeepsUptoCardSaid : Prop := Claim7.holds Tryd.pinned (.plain (OpenSpec.upto recordKeepsSpec)) recordKeepsUptoCard
end Rows
end Go.Proofs.YtcllenlpoknakaaDoor
