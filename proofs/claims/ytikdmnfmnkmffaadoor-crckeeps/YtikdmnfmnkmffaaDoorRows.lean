/-
  NARROWER THAN 'FOR EVERY INPUT', by the rows' own cells (each row's printed sentence says how): CrcAll: laid · CrcCuts: laid · CrcTurns: laid · CrcMoves: laid · CrcZeros: laid · CrcKeeps: laid.
  DERIVED. THE GIVEN ROWS OF THIS SEAT. 6 by the template 'for every input the law returns true; each argument reads behind the call as it read before'; 0 by the template 'total and deterministic' (their statements: YtikdmnfmnkmffaaDoorTotals.lean).
  GIVEN WITH THE SEED: the statements are not yours to turn. If you find one false, say at which input.
  Laid BY PROGRAM, IN A SANDBOX (cutbox-rows.mjs): the forced cells as the released guide's own fill.sh prints them over the translation b22c1e22334a8652… (all of the seat's roots in one cut). By AI agents, Wed Nov 11 2026. No macro, syntax, notation, axiom, sorry.
-/
import Derived.Test.YtikdmnfmnkmffaaDoorChecked
import GoSem.Claim
import GoSem.ClaimJoined
import GoSem.ClaimMapViews
import Derived.JoinedTies
import Derived.KernelRfl
namespace Go.Proofs.YtikdmnfmnkmffaaDoor
/- THE CELL 'sum', in the pinned program and in every row, IS THE sha256 OF THE DUMP (.gsa) THAT YtikdmnfmnkmffaaDoorProg.lean LOADS. Nothing in Lean hashes anything: it is a label: what it is worth is what the hold of that sum in a sandbox is worth. -/
noncomputable def Tryd.pinned : Pinned := { name := "ytikdmnfmnkmffaadoor", sum := "b22c1e22334a8652986dade8e3758d1e412cbee674de19b882c45e2f55e87765", checked := Tryd.checked }
namespace Rows
def none {H : Type} : Left H := { results := [], args := [] }

/- WHAT THE LISTED PACKAGE-LEVEL VARIABLES READ AS WHEN THE CALL BEGINS. Each datum BY PROGRAM (the guide's laid-datum.mjs) off the statement by which the dump's own 'gosem.cut.vars' lays the variable. In a bare row this is a premise. The card (YtikdmnfmnkmffaaDoorCards.lean) ties it to the program's text. -/
def laid_turnstile_crc_halves {H : Type} : DataW H := .agg [.lit (.int .u32 0), .lit (.int .u32 274646895), .lit (.int .u32 549293790), .lit (.int .u32 820201905), .lit (.int .u32 1098587580), .lit (.int .u32 1361435347), .lit (.int .u32 1640403810), .lit (.int .u32 1905808397), .lit (.int .u32 2197175160), .lit (.int .u32 2460548119), .lit (.int .u32 2722870694), .lit (.int .u32 2987750089), .lit (.int .u32 3280807620), .lit (.int .u32 3553878443), .lit (.int .u32 3811616794), .lit (.int .u32 4084100981)]

/-- 'turnstilelaw02.CrcAll': WHATEVER THE INPUT: true; the input reads as it did. -/
def crcAllSpec : ChangeSpec := { name := "crcAll", fn := fun _ => fun
  | [d] => { results := [.lit (.bool true)], args := [d] }
  | _ => none }
def crcAllRow : OpenClaim := { program := "ytikdmnfmnkmffaadoor", sum := "b22c1e22334a8652986dade8e3758d1e412cbee674de19b882c45e2f55e87765", func := "turnstile/turnstilelaw02.CrcAll", spec := "crcAll", named := ["turnstile/crc.halves"], apart := false, laid := [("turnstile/crc.halves", laid_turnstile_crc_halves)] }
def CrcAllSaid : Prop := crcAllRow.holds Tryd.pinned (OpenSpec.ofChange crcAllSpec)

/-- ITS FALSE NEIGHBOUR: 'it returns false'. Refute it at one input. -/
def crcAllWrong : ChangeSpec := { name := "crcAll", fn := fun _ => fun
  | [d] => { results := [.lit (.bool false)], args := [d] }
  | _ => none }
def CrcAllWrongFalsely : Prop := crcAllRow.holds Tryd.pinned (OpenSpec.ofChange crcAllWrong)

/-- 'turnstilelaw02.CrcCuts': WHATEVER THE INPUT: true; the input reads as it did. -/
def crcCutsSpec : ChangeSpec := { name := "crcCuts", fn := fun _ => fun
  | [d1, d2] => { results := [.lit (.bool true)], args := [d1, d2] }
  | _ => none }
def crcCutsRow : OpenClaim := { program := "ytikdmnfmnkmffaadoor", sum := "b22c1e22334a8652986dade8e3758d1e412cbee674de19b882c45e2f55e87765", func := "turnstile/turnstilelaw02.CrcCuts", spec := "crcCuts", named := ["turnstile/crc.halves"], apart := false, laid := [("turnstile/crc.halves", laid_turnstile_crc_halves)] }
def CrcCutsSaid : Prop := crcCutsRow.holds Tryd.pinned (OpenSpec.ofChange crcCutsSpec)

/-- ITS FALSE NEIGHBOUR: 'it returns false'. Refute it at one input. -/
def crcCutsWrong : ChangeSpec := { name := "crcCuts", fn := fun _ => fun
  | [d1, d2] => { results := [.lit (.bool false)], args := [d1, d2] }
  | _ => none }
def CrcCutsWrongFalsely : Prop := crcCutsRow.holds Tryd.pinned (OpenSpec.ofChange crcCutsWrong)

/-- 'turnstilelaw02.CrcTurns': WHATEVER THE INPUT: true; the input reads as it did. -/
def crcTurnsSpec : ChangeSpec := { name := "crcTurns", fn := fun _ => fun
  | [d1, d2, d3] => { results := [.lit (.bool true)], args := [d1, d2, d3] }
  | _ => none }
def crcTurnsRow : OpenClaim := { program := "ytikdmnfmnkmffaadoor", sum := "b22c1e22334a8652986dade8e3758d1e412cbee674de19b882c45e2f55e87765", func := "turnstile/turnstilelaw02.CrcTurns", spec := "crcTurns", named := ["turnstile/crc.halves"], apart := false, laid := [("turnstile/crc.halves", laid_turnstile_crc_halves)] }
def CrcTurnsSaid : Prop := crcTurnsRow.holds Tryd.pinned (OpenSpec.ofChange crcTurnsSpec)

/-- ITS FALSE NEIGHBOUR: 'it returns false'. Refute it at one input. -/
def crcTurnsWrong : ChangeSpec := { name := "crcTurns", fn := fun _ => fun
  | [d1, d2, d3] => { results := [.lit (.bool false)], args := [d1, d2, d3] }
  | _ => none }
def CrcTurnsWrongFalsely : Prop := crcTurnsRow.holds Tryd.pinned (OpenSpec.ofChange crcTurnsWrong)

/-- 'turnstilelaw02.CrcMoves': WHATEVER THE INPUT: true; the input reads as it did. -/
def crcMovesSpec : ChangeSpec := { name := "crcMoves", fn := fun _ => fun
  | [d1, d2, d3, d4] => { results := [.lit (.bool true)], args := [d1, d2, d3, d4] }
  | _ => none }
def crcMovesRow : OpenClaim := { program := "ytikdmnfmnkmffaadoor", sum := "b22c1e22334a8652986dade8e3758d1e412cbee674de19b882c45e2f55e87765", func := "turnstile/turnstilelaw02.CrcMoves", spec := "crcMoves", named := ["turnstile/crc.halves"], apart := false, laid := [("turnstile/crc.halves", laid_turnstile_crc_halves)] }
def CrcMovesSaid : Prop := crcMovesRow.holds Tryd.pinned (OpenSpec.ofChange crcMovesSpec)

/-- ITS FALSE NEIGHBOUR: 'it returns false'. Refute it at one input. -/
def crcMovesWrong : ChangeSpec := { name := "crcMoves", fn := fun _ => fun
  | [d1, d2, d3, d4] => { results := [.lit (.bool false)], args := [d1, d2, d3, d4] }
  | _ => none }
def CrcMovesWrongFalsely : Prop := crcMovesRow.holds Tryd.pinned (OpenSpec.ofChange crcMovesWrong)

/-- 'turnstilelaw02.CrcZeros': WHATEVER THE INPUT: true; the input reads as it did. -/
def crcZerosSpec : ChangeSpec := { name := "crcZeros", fn := fun _ => fun
  | [d1, d2] => { results := [.lit (.bool true)], args := [d1, d2] }
  | _ => none }
def crcZerosRow : OpenClaim := { program := "ytikdmnfmnkmffaadoor", sum := "b22c1e22334a8652986dade8e3758d1e412cbee674de19b882c45e2f55e87765", func := "turnstile/turnstilelaw02.CrcZeros", spec := "crcZeros", named := ["turnstile/crc.halves"], apart := false, laid := [("turnstile/crc.halves", laid_turnstile_crc_halves)] }
def CrcZerosSaid : Prop := crcZerosRow.holds Tryd.pinned (OpenSpec.ofChange crcZerosSpec)

/-- ITS FALSE NEIGHBOUR: 'it returns false'. Refute it at one input. -/
def crcZerosWrong : ChangeSpec := { name := "crcZeros", fn := fun _ => fun
  | [d1, d2] => { results := [.lit (.bool false)], args := [d1, d2] }
  | _ => none }
def CrcZerosWrongFalsely : Prop := crcZerosRow.holds Tryd.pinned (OpenSpec.ofChange crcZerosWrong)

/-- 'turnstilelaw02.CrcKeeps': WHATEVER THE INPUT: true; the input reads as it did. -/
def crcKeepsSpec : ChangeSpec := { name := "crcKeeps", fn := fun _ => fun
  | [d] => { results := [.lit (.bool true)], args := [d] }
  | _ => none }
def crcKeepsRow : OpenClaim := { program := "ytikdmnfmnkmffaadoor", sum := "b22c1e22334a8652986dade8e3758d1e412cbee674de19b882c45e2f55e87765", func := "turnstile/turnstilelaw02.CrcKeeps", spec := "crcKeeps", named := ["turnstile/crc.halves"], apart := false, laid := [("turnstile/crc.halves", laid_turnstile_crc_halves)] }
def CrcKeepsSaid : Prop := crcKeepsRow.holds Tryd.pinned (OpenSpec.ofChange crcKeepsSpec)

/-- ITS FALSE NEIGHBOUR: 'it returns false'. Refute it at one input. -/
def crcKeepsWrong : ChangeSpec := { name := "crcKeeps", fn := fun _ => fun
  | [d] => { results := [.lit (.bool false)], args := [d] }
  | _ => none }
def CrcKeepsWrongFalsely : Prop := crcKeepsRow.holds Tryd.pinned (OpenSpec.ofChange crcKeepsWrong)

/- THE SECOND FORM. 'bulk': how many values and letters a reading holds, each counted each time it is reached (what is shared counts as often as it is met; a slice's spare places count too). A statement '..UptoSaid' is the law's where the arguments, and the package variables that the reading takes, are together of bulk at most 1048576: NARROWER than '..Said'. Prove '..Said' where nothing that the law and all that it calls make is longer than what came in: it says more and counts as full. Else prove '..UptoSaid'. A law counts once. -/
mutual
def uptoBulk {H : Type} : DataW H → Nat
  | .lit (.string bytes) => bytes.length + 1
  | .lit _ => 1
  | .nil => 1
  | .ptr d => uptoBulk d + 1
  | .slice elems spare => uptoBulkAll elems + uptoBulkAll spare + 1
  | .agg parts => uptoBulkAll parts + 1
  | .iface _ d => uptoBulk d + 1
  | .map entries => uptoBulkEntries entries + 1
  | .held _ => 1
def uptoBulkAll {H : Type} : List (DataW H) → Nat
  | [] => 0
  | d :: r => uptoBulk d + uptoBulkAll r
def uptoBulkEntries {H : Type} : List (Lit × DataW H) → Nat
  | [] => 0
  | x :: r => uptoBulkEntry x + uptoBulkEntries r
def uptoBulkEntry {H : Type} : Lit × DataW H → Nat
  | (.string bytes, d) => bytes.length + uptoBulk d + 1
  | (_, d) => uptoBulk d + 1
 end
def uptoSmall : (H : Type) → List (DataW H) → Bool := fun _ ds => decide (uptoBulkAll ds ≤ 1048576)
def OpenSpec.upto (s : _root_.Go.ChangeSpec) : _root_.Go.OpenSpec := { _root_.Go.OpenSpec.ofChange s with cond := some uptoSmall }

/-- 'turnstilelaw02.CrcAll', WHERE WHAT IT READS IS OF BULK AT MOST 1048576: true; the input reads as it did. -/
def crcAllUptoRow : OpenClaim := { program := "ytikdmnfmnkmffaadoor", sum := "b22c1e22334a8652986dade8e3758d1e412cbee674de19b882c45e2f55e87765", func := "turnstile/turnstilelaw02.CrcAll", spec := "crcAll", named := ["turnstile/crc.halves"], apart := false, laid := [("turnstile/crc.halves", laid_turnstile_crc_halves)], narrowed := true }
def CrcAllUptoSaid : Prop := crcAllUptoRow.holds Tryd.pinned (OpenSpec.upto crcAllSpec)

/-- 'turnstilelaw02.CrcCuts', WHERE WHAT IT READS IS OF BULK AT MOST 1048576: true; the input reads as it did. -/
def crcCutsUptoRow : OpenClaim := { program := "ytikdmnfmnkmffaadoor", sum := "b22c1e22334a8652986dade8e3758d1e412cbee674de19b882c45e2f55e87765", func := "turnstile/turnstilelaw02.CrcCuts", spec := "crcCuts", named := ["turnstile/crc.halves"], apart := false, laid := [("turnstile/crc.halves", laid_turnstile_crc_halves)], narrowed := true }
def CrcCutsUptoSaid : Prop := crcCutsUptoRow.holds Tryd.pinned (OpenSpec.upto crcCutsSpec)

/-- 'turnstilelaw02.CrcTurns', WHERE WHAT IT READS IS OF BULK AT MOST 1048576: true; the input reads as it did. -/
def crcTurnsUptoRow : OpenClaim := { program := "ytikdmnfmnkmffaadoor", sum := "b22c1e22334a8652986dade8e3758d1e412cbee674de19b882c45e2f55e87765", func := "turnstile/turnstilelaw02.CrcTurns", spec := "crcTurns", named := ["turnstile/crc.halves"], apart := false, laid := [("turnstile/crc.halves", laid_turnstile_crc_halves)], narrowed := true }
def CrcTurnsUptoSaid : Prop := crcTurnsUptoRow.holds Tryd.pinned (OpenSpec.upto crcTurnsSpec)

/-- 'turnstilelaw02.CrcMoves', WHERE WHAT IT READS IS OF BULK AT MOST 1048576: true; the input reads as it did. -/
def crcMovesUptoRow : OpenClaim := { program := "ytikdmnfmnkmffaadoor", sum := "b22c1e22334a8652986dade8e3758d1e412cbee674de19b882c45e2f55e87765", func := "turnstile/turnstilelaw02.CrcMoves", spec := "crcMoves", named := ["turnstile/crc.halves"], apart := false, laid := [("turnstile/crc.halves", laid_turnstile_crc_halves)], narrowed := true }
def CrcMovesUptoSaid : Prop := crcMovesUptoRow.holds Tryd.pinned (OpenSpec.upto crcMovesSpec)

/-- 'turnstilelaw02.CrcZeros', WHERE WHAT IT READS IS OF BULK AT MOST 1048576: true; the input reads as it did. -/
def crcZerosUptoRow : OpenClaim := { program := "ytikdmnfmnkmffaadoor", sum := "b22c1e22334a8652986dade8e3758d1e412cbee674de19b882c45e2f55e87765", func := "turnstile/turnstilelaw02.CrcZeros", spec := "crcZeros", named := ["turnstile/crc.halves"], apart := false, laid := [("turnstile/crc.halves", laid_turnstile_crc_halves)], narrowed := true }
def CrcZerosUptoSaid : Prop := crcZerosUptoRow.holds Tryd.pinned (OpenSpec.upto crcZerosSpec)

/-- 'turnstilelaw02.CrcKeeps', WHERE WHAT IT READS IS OF BULK AT MOST 1048576: true; the input reads as it did. -/
def crcKeepsUptoRow : OpenClaim := { program := "ytikdmnfmnkmffaadoor", sum := "b22c1e22334a8652986dade8e3758d1e412cbee674de19b882c45e2f55e87765", func := "turnstile/turnstilelaw02.CrcKeeps", spec := "crcKeeps", named := ["turnstile/crc.halves"], apart := false, laid := [("turnstile/crc.halves", laid_turnstile_crc_halves)], narrowed := true }
def CrcKeepsUptoSaid : Prop := crcKeepsUptoRow.holds Tryd.pinned (OpenSpec.upto crcKeepsSpec)

end Rows
end Go.Proofs.YtikdmnfmnkmffaaDoor
