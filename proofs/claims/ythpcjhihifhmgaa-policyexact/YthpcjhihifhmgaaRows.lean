/-
  No cell of these rows narrows 'for every input' (looked for: loops, veiled, ifaces, maps, wideKeys, modest, calm, conditions, laid).
  DERIVED. THE GIVEN ROWS OF THIS SEAT. 5 by the template 'for every input the law returns true; each argument reads behind the call as it read before'; 0 by the template 'total and deterministic' (their statements: YthpcjhihifhmgaaTotals.lean).
  GIVEN WITH THE SEED: the statements are not yours to turn. If you find one false, say at which input.
  Laid BY PROGRAM, IN A SANDBOX (cutbox-rows.mjs): the forced cells as the released guide's own fill.sh prints them over the translation 13e36ac7ec536a7d… (all of the seat's roots in one cut). By AI agents, Wed Nov 11 2026. No macro, syntax, notation, axiom, sorry.
-/
import Derived.Test.YthpcjhihifhmgaaChecked
import GoSem.Claim
import GoSem.ClaimJoined
import GoSem.ClaimMapViews
import Derived.JoinedTies
import Derived.KernelRfl
namespace Go.Proofs.Ythpcjhihifhmgaa
/- THE CELL 'sum', in the pinned program and in every row, IS THE sha256 OF THE DUMP (.gsa) THAT YthpcjhihifhmgaaProg.lean LOADS. Nothing in Lean hashes anything: it is a label: what it is worth is what the hold of that sum in a sandbox is worth. -/
noncomputable def Try.pinned : Pinned := { name := "ythpcjhihifhmgaa", sum := "13e36ac7ec536a7df6bb78bd81249f4d139318e1d720e5f229aa480dee334d16", checked := Try.checked }
namespace Rows
def none {H : Type} : Left H := { results := [], args := [] }

/-- 'turnstilelaw06.PolicyExact': WHATEVER THE INPUT: true; the input reads as it did. -/
def policyExactSpec : ChangeSpec := { name := "policyExact", fn := fun _ => fun
  | [d] => { results := [.lit (.bool true)], args := [d] }
  | _ => none }
def policyExactRow : OpenClaim := { program := "ythpcjhihifhmgaa", sum := "13e36ac7ec536a7df6bb78bd81249f4d139318e1d720e5f229aa480dee334d16", func := "turnstile/turnstilelaw06.PolicyExact", spec := "policyExact", inPlace := ["math/bits.Add64"], unfollowed := true, recurses := true, apart := false }
def PolicyExactSaid : Prop := policyExactRow.holds Try.pinned (OpenSpec.ofChange policyExactSpec)

/-- ITS FALSE NEIGHBOUR: 'it returns false'. Refute it at one input. -/
def policyExactWrong : ChangeSpec := { name := "policyExact", fn := fun _ => fun
  | [d] => { results := [.lit (.bool false)], args := [d] }
  | _ => none }
def PolicyExactWrongFalsely : Prop := policyExactRow.holds Try.pinned (OpenSpec.ofChange policyExactWrong)

/-- 'turnstilelaw06.PolicyFace': WHATEVER THE INPUT: true; the input reads as it did. -/
def policyFaceSpec : ChangeSpec := { name := "policyFace", fn := fun _ => fun
  | [d] => { results := [.lit (.bool true)], args := [d] }
  | _ => none }
def policyFaceRow : OpenClaim := { program := "ythpcjhihifhmgaa", sum := "13e36ac7ec536a7df6bb78bd81249f4d139318e1d720e5f229aa480dee334d16", func := "turnstile/turnstilelaw06.PolicyFace", spec := "policyFace", inPlace := ["math/bits.Add64"], unfollowed := true, recurses := true, apart := false }
def PolicyFaceSaid : Prop := policyFaceRow.holds Try.pinned (OpenSpec.ofChange policyFaceSpec)

/-- ITS FALSE NEIGHBOUR: 'it returns false'. Refute it at one input. -/
def policyFaceWrong : ChangeSpec := { name := "policyFace", fn := fun _ => fun
  | [d] => { results := [.lit (.bool false)], args := [d] }
  | _ => none }
def PolicyFaceWrongFalsely : Prop := policyFaceRow.holds Try.pinned (OpenSpec.ofChange policyFaceWrong)

/-- 'turnstilelaw06.PolicyForm': WHATEVER THE INPUT: true; the input reads as it did. -/
def policyFormSpec : ChangeSpec := { name := "policyForm", fn := fun _ => fun
  | [d1, d2, d3] => { results := [.lit (.bool true)], args := [d1, d2, d3] }
  | _ => none }
def policyFormRow : OpenClaim := { program := "ythpcjhihifhmgaa", sum := "13e36ac7ec536a7df6bb78bd81249f4d139318e1d720e5f229aa480dee334d16", func := "turnstile/turnstilelaw06.PolicyForm", spec := "policyForm", inPlace := ["math/bits.Add64"], unfollowed := true, recurses := true, apart := false }
def PolicyFormSaid : Prop := policyFormRow.holds Try.pinned (OpenSpec.ofChange policyFormSpec)

/-- ITS FALSE NEIGHBOUR: 'it returns false'. Refute it at one input. -/
def policyFormWrong : ChangeSpec := { name := "policyForm", fn := fun _ => fun
  | [d1, d2, d3] => { results := [.lit (.bool false)], args := [d1, d2, d3] }
  | _ => none }
def PolicyFormWrongFalsely : Prop := policyFormRow.holds Try.pinned (OpenSpec.ofChange policyFormWrong)

/-- 'turnstilelaw06.PolicyOrder': WHATEVER THE INPUT: true; the input reads as it did. -/
def policyOrderSpec : ChangeSpec := { name := "policyOrder", fn := fun _ => fun
  | [d1, d2] => { results := [.lit (.bool true)], args := [d1, d2] }
  | _ => none }
def policyOrderRow : OpenClaim := { program := "ythpcjhihifhmgaa", sum := "13e36ac7ec536a7df6bb78bd81249f4d139318e1d720e5f229aa480dee334d16", func := "turnstile/turnstilelaw06.PolicyOrder", spec := "policyOrder", inPlace := ["math/bits.Add64"], unfollowed := true, recurses := true, apart := false }
def PolicyOrderSaid : Prop := policyOrderRow.holds Try.pinned (OpenSpec.ofChange policyOrderSpec)

/-- ITS FALSE NEIGHBOUR: 'it returns false'. Refute it at one input. -/
def policyOrderWrong : ChangeSpec := { name := "policyOrder", fn := fun _ => fun
  | [d1, d2] => { results := [.lit (.bool false)], args := [d1, d2] }
  | _ => none }
def PolicyOrderWrongFalsely : Prop := policyOrderRow.holds Try.pinned (OpenSpec.ofChange policyOrderWrong)

/-- 'turnstilelaw06.PolicyRises': WHATEVER THE INPUT: true; the input reads as it did. -/
def policyRisesSpec : ChangeSpec := { name := "policyRises", fn := fun _ => fun
  | [d1, d2] => { results := [.lit (.bool true)], args := [d1, d2] }
  | _ => none }
def policyRisesRow : OpenClaim := { program := "ythpcjhihifhmgaa", sum := "13e36ac7ec536a7df6bb78bd81249f4d139318e1d720e5f229aa480dee334d16", func := "turnstile/turnstilelaw06.PolicyRises", spec := "policyRises", inPlace := ["math/bits.Add64"], unfollowed := true, recurses := true, apart := false }
def PolicyRisesSaid : Prop := policyRisesRow.holds Try.pinned (OpenSpec.ofChange policyRisesSpec)

/-- ITS FALSE NEIGHBOUR: 'it returns false'. Refute it at one input. -/
def policyRisesWrong : ChangeSpec := { name := "policyRises", fn := fun _ => fun
  | [d1, d2] => { results := [.lit (.bool false)], args := [d1, d2] }
  | _ => none }
def PolicyRisesWrongFalsely : Prop := policyRisesRow.holds Try.pinned (OpenSpec.ofChange policyRisesWrong)

/- THE SECOND FORM. 'bulk': how many values and letters a reading holds, each counted each time it is reached (what is shared counts as often as it is met; a slice's spare places count too). A statement '..UptoSaid' is the law's where the arguments, and the package variables that the reading takes, are together of bulk at most 1048576: NARROWER than '..Said'. Prove '..Said' where nothing that the law and all that it calls make is longer than what came in: it says more and counts as full. Else prove '..UptoSaid'. A law counts once. -/
mutual
def uptoBulk {H : Type} : DataW H → Nat
  | .lit (.string bytes) => bytes.length + 1
  | .lit _ => 1
  | .nil => 1
  | .ptr d => uptoBulk d + 1
  | .slice elems spare => uptoBulkAll elems + uptoBulkAll spare + 1
  | .agg parts => uptoBulkAll parts + 1
  | .iface _ d => uptoBulk d + 1
  | .map entries => uptoBulkEntries entries + 1
  | .held _ => 1
def uptoBulkAll {H : Type} : List (DataW H) → Nat
  | [] => 0
  | d :: r => uptoBulk d + uptoBulkAll r
def uptoBulkEntries {H : Type} : List (Lit × DataW H) → Nat
  | [] => 0
  | x :: r => uptoBulkEntry x + uptoBulkEntries r
def uptoBulkEntry {H : Type} : Lit × DataW H → Nat
  | (.string bytes, d) => bytes.length + uptoBulk d + 1
  | (_, d) => uptoBulk d + 1
 end
def uptoSmall : (H : Type) → List (DataW H) → Bool := fun _ ds => decide (uptoBulkAll ds ≤ 1048576)
def OpenSpec.upto (s : _root_.Go.ChangeSpec) : _root_.Go.OpenSpec := { _root_.Go.OpenSpec.ofChange s with cond := some uptoSmall }

/-- 'turnstilelaw06.PolicyExact', WHERE WHAT IT READS IS OF BULK AT MOST 1048576: true; the input reads as it did. -/
def policyExactUptoRow : OpenClaim := { program := "ythpcjhihifhmgaa", sum := "13e36ac7ec536a7df6bb78bd81249f4d139318e1d720e5f229aa480dee334d16", func := "turnstile/turnstilelaw06.PolicyExact", spec := "policyExact", inPlace := ["math/bits.Add64"], unfollowed := true, recurses := true, apart := false, narrowed := true }
def PolicyExactUptoSaid : Prop := policyExactUptoRow.holds Try.pinned (OpenSpec.upto policyExactSpec)

/-- 'turnstilelaw06.PolicyFace', WHERE WHAT IT READS IS OF BULK AT MOST 1048576: true; the input reads as it did. -/
def policyFaceUptoRow : OpenClaim := { program := "ythpcjhihifhmgaa", sum := "13e36ac7ec536a7df6bb78bd81249f4d139318e1d720e5f229aa480dee334d16", func := "turnstile/turnstilelaw06.PolicyFace", spec := "policyFace", inPlace := ["math/bits.Add64"], unfollowed := true, recurses := true, apart := false, narrowed := true }
def PolicyFaceUptoSaid : Prop := policyFaceUptoRow.holds Try.pinned (OpenSpec.upto policyFaceSpec)

/-- 'turnstilelaw06.PolicyForm', WHERE WHAT IT READS IS OF BULK AT MOST 1048576: true; the input reads as it did. -/
def policyFormUptoRow : OpenClaim := { program := "ythpcjhihifhmgaa", sum := "13e36ac7ec536a7df6bb78bd81249f4d139318e1d720e5f229aa480dee334d16", func := "turnstile/turnstilelaw06.PolicyForm", spec := "policyForm", inPlace := ["math/bits.Add64"], unfollowed := true, recurses := true, apart := false, narrowed := true }
def PolicyFormUptoSaid : Prop := policyFormUptoRow.holds Try.pinned (OpenSpec.upto policyFormSpec)

/-- 'turnstilelaw06.PolicyOrder', WHERE WHAT IT READS IS OF BULK AT MOST 1048576: true; the input reads as it did. -/
def policyOrderUptoRow : OpenClaim := { program := "ythpcjhihifhmgaa", sum := "13e36ac7ec536a7df6bb78bd81249f4d139318e1d720e5f229aa480dee334d16", func := "turnstile/turnstilelaw06.PolicyOrder", spec := "policyOrder", inPlace := ["math/bits.Add64"], unfollowed := true, recurses := true, apart := false, narrowed := true }
def PolicyOrderUptoSaid : Prop := policyOrderUptoRow.holds Try.pinned (OpenSpec.upto policyOrderSpec)

/-- 'turnstilelaw06.PolicyRises', WHERE WHAT IT READS IS OF BULK AT MOST 1048576: true; the input reads as it did. -/
def policyRisesUptoRow : OpenClaim := { program := "ythpcjhihifhmgaa", sum := "13e36ac7ec536a7df6bb78bd81249f4d139318e1d720e5f229aa480dee334d16", func := "turnstile/turnstilelaw06.PolicyRises", spec := "policyRises", inPlace := ["math/bits.Add64"], unfollowed := true, recurses := true, apart := false, narrowed := true }
def PolicyRisesUptoSaid : Prop := policyRisesUptoRow.holds Try.pinned (OpenSpec.upto policyRisesSpec)

end Rows
end Go.Proofs.Ythpcjhihifhmgaa
