/-
  No cell of these rows narrows 'for every input' (looked for: loops, veiled, ifaces, maps, wideKeys, modest, calm, conditions, laid).
  DERIVED. THE GIVEN ROWS OF THIS SEAT. 7 by the template 'for every input the law returns true; each argument reads behind the call as it read before'; 0 by the template 'total and deterministic' (their statements: YtipbpppdifplbaaTotals.lean).
  GIVEN WITH THE SEED: the statements are not yours to turn. If you find one false, say at which input.
  Laid BY PROGRAM, IN A SANDBOX (cutbox-rows.mjs): the forced cells as the released guide's own fill.sh prints them over the translation 731d0285f4e6317b… (all of the seat's roots in one cut). By AI agents, Wed Nov 11 2026. No macro, syntax, notation, axiom, sorry.
-/
import Derived.Test.YtipbpppdifplbaaChecked
import GoSem.Claim
import GoSem.ClaimJoined
import GoSem.ClaimMapViews
import Derived.JoinedTies
import Derived.KernelRfl
namespace Go.Proofs.Ytipbpppdifplbaa
/- THE CELL 'sum', in the pinned program and in every row, IS THE sha256 OF THE DUMP (.gsa) THAT YtipbpppdifplbaaProg.lean LOADS. Nothing in Lean hashes anything: it is a label: what it is worth is what the hold of that sum in a sandbox is worth. -/
noncomputable def Try.pinned : Pinned := { name := "ytipbpppdifplbaa", sum := "731d0285f4e6317b8c39cabe9840fbc751ee0c0db77c4169e2e37bb678f9cfd0", checked := Try.checked }
namespace Rows
def none {H : Type} : Left H := { results := [], args := [] }

/-- 'turnstilelaw04.GcraAdmits': WHATEVER THE INPUT: true; the input reads as it did. -/
def gcraAdmitsSpec : ChangeSpec := { name := "gcraAdmits", fn := fun _ => fun
  | [d] => { results := [.lit (.bool true)], args := [d] }
  | _ => none }
def gcraAdmitsRow : OpenClaim := { program := "ytipbpppdifplbaa", sum := "731d0285f4e6317b8c39cabe9840fbc751ee0c0db77c4169e2e37bb678f9cfd0", func := "turnstile/turnstilelaw04.GcraAdmits", spec := "gcraAdmits", inPlace := ["math/bits.Add64"], apart := false }
def GcraAdmitsSaid : Prop := gcraAdmitsRow.holds Try.pinned (OpenSpec.ofChange gcraAdmitsSpec)

/-- ITS FALSE NEIGHBOUR: 'it returns false'. Refute it at one input. -/
def gcraAdmitsWrong : ChangeSpec := { name := "gcraAdmits", fn := fun _ => fun
  | [d] => { results := [.lit (.bool false)], args := [d] }
  | _ => none }
def GcraAdmitsWrongFalsely : Prop := gcraAdmitsRow.holds Try.pinned (OpenSpec.ofChange gcraAdmitsWrong)

/-- 'turnstilelaw04.GcraRetries': WHATEVER THE INPUT: true; the input reads as it did. -/
def gcraRetriesSpec : ChangeSpec := { name := "gcraRetries", fn := fun _ => fun
  | [d] => { results := [.lit (.bool true)], args := [d] }
  | _ => none }
def gcraRetriesRow : OpenClaim := { program := "ytipbpppdifplbaa", sum := "731d0285f4e6317b8c39cabe9840fbc751ee0c0db77c4169e2e37bb678f9cfd0", func := "turnstile/turnstilelaw04.GcraRetries", spec := "gcraRetries", inPlace := ["math/bits.Add64"], apart := false }
def GcraRetriesSaid : Prop := gcraRetriesRow.holds Try.pinned (OpenSpec.ofChange gcraRetriesSpec)

/-- ITS FALSE NEIGHBOUR: 'it returns false'. Refute it at one input. -/
def gcraRetriesWrong : ChangeSpec := { name := "gcraRetries", fn := fun _ => fun
  | [d] => { results := [.lit (.bool false)], args := [d] }
  | _ => none }
def GcraRetriesWrongFalsely : Prop := gcraRetriesRow.holds Try.pinned (OpenSpec.ofChange gcraRetriesWrong)

/-- 'turnstilelaw04.GcraLeast': WHATEVER THE INPUT: true; the input reads as it did. -/
def gcraLeastSpec : ChangeSpec := { name := "gcraLeast", fn := fun _ => fun
  | [d1, d2] => { results := [.lit (.bool true)], args := [d1, d2] }
  | _ => none }
def gcraLeastRow : OpenClaim := { program := "ytipbpppdifplbaa", sum := "731d0285f4e6317b8c39cabe9840fbc751ee0c0db77c4169e2e37bb678f9cfd0", func := "turnstile/turnstilelaw04.GcraLeast", spec := "gcraLeast", inPlace := ["math/bits.Add64"], apart := false }
def GcraLeastSaid : Prop := gcraLeastRow.holds Try.pinned (OpenSpec.ofChange gcraLeastSpec)

/-- ITS FALSE NEIGHBOUR: 'it returns false'. Refute it at one input. -/
def gcraLeastWrong : ChangeSpec := { name := "gcraLeast", fn := fun _ => fun
  | [d1, d2] => { results := [.lit (.bool false)], args := [d1, d2] }
  | _ => none }
def GcraLeastWrongFalsely : Prop := gcraLeastRow.holds Try.pinned (OpenSpec.ofChange gcraLeastWrong)

/-- 'turnstilelaw04.GcraMost': WHATEVER THE INPUT: true; the input reads as it did. -/
def gcraMostSpec : ChangeSpec := { name := "gcraMost", fn := fun _ => fun
  | [d] => { results := [.lit (.bool true)], args := [d] }
  | _ => none }
def gcraMostRow : OpenClaim := { program := "ytipbpppdifplbaa", sum := "731d0285f4e6317b8c39cabe9840fbc751ee0c0db77c4169e2e37bb678f9cfd0", func := "turnstile/turnstilelaw04.GcraMost", spec := "gcraMost", inPlace := ["math/bits.Add64"], apart := false }
def GcraMostSaid : Prop := gcraMostRow.holds Try.pinned (OpenSpec.ofChange gcraMostSpec)

/-- ITS FALSE NEIGHBOUR: 'it returns false'. Refute it at one input. -/
def gcraMostWrong : ChangeSpec := { name := "gcraMost", fn := fun _ => fun
  | [d] => { results := [.lit (.bool false)], args := [d] }
  | _ => none }
def GcraMostWrongFalsely : Prop := gcraMostRow.holds Try.pinned (OpenSpec.ofChange gcraMostWrong)

/-- 'turnstilelaw04.GcraSplits': WHATEVER THE INPUT: true; the input reads as it did. -/
def gcraSplitsSpec : ChangeSpec := { name := "gcraSplits", fn := fun _ => fun
  | [d1, d2] => { results := [.lit (.bool true)], args := [d1, d2] }
  | _ => none }
def gcraSplitsRow : OpenClaim := { program := "ytipbpppdifplbaa", sum := "731d0285f4e6317b8c39cabe9840fbc751ee0c0db77c4169e2e37bb678f9cfd0", func := "turnstile/turnstilelaw04.GcraSplits", spec := "gcraSplits", inPlace := ["math/bits.Add64"], apart := false }
def GcraSplitsSaid : Prop := gcraSplitsRow.holds Try.pinned (OpenSpec.ofChange gcraSplitsSpec)

/-- ITS FALSE NEIGHBOUR: 'it returns false'. Refute it at one input. -/
def gcraSplitsWrong : ChangeSpec := { name := "gcraSplits", fn := fun _ => fun
  | [d1, d2] => { results := [.lit (.bool false)], args := [d1, d2] }
  | _ => none }
def GcraSplitsWrongFalsely : Prop := gcraSplitsRow.holds Try.pinned (OpenSpec.ofChange gcraSplitsWrong)

/-- 'turnstilelaw04.GcraLesser': WHATEVER THE INPUT: true; the input reads as it did. -/
def gcraLesserSpec : ChangeSpec := { name := "gcraLesser", fn := fun _ => fun
  | [d1, d2, d3] => { results := [.lit (.bool true)], args := [d1, d2, d3] }
  | _ => none }
def gcraLesserRow : OpenClaim := { program := "ytipbpppdifplbaa", sum := "731d0285f4e6317b8c39cabe9840fbc751ee0c0db77c4169e2e37bb678f9cfd0", func := "turnstile/turnstilelaw04.GcraLesser", spec := "gcraLesser", inPlace := ["math/bits.Add64"], apart := false }
def GcraLesserSaid : Prop := gcraLesserRow.holds Try.pinned (OpenSpec.ofChange gcraLesserSpec)

/-- ITS FALSE NEIGHBOUR: 'it returns false'. Refute it at one input. -/
def gcraLesserWrong : ChangeSpec := { name := "gcraLesser", fn := fun _ => fun
  | [d1, d2, d3] => { results := [.lit (.bool false)], args := [d1, d2, d3] }
  | _ => none }
def GcraLesserWrongFalsely : Prop := gcraLesserRow.holds Try.pinned (OpenSpec.ofChange gcraLesserWrong)

/-- 'turnstilelaw04.GcraIntervals': WHATEVER THE INPUT: true; the input reads as it did. -/
def gcraIntervalsSpec : ChangeSpec := { name := "gcraIntervals", fn := fun _ => fun
  | [d1, d2, d3] => { results := [.lit (.bool true)], args := [d1, d2, d3] }
  | _ => none }
def gcraIntervalsRow : OpenClaim := { program := "ytipbpppdifplbaa", sum := "731d0285f4e6317b8c39cabe9840fbc751ee0c0db77c4169e2e37bb678f9cfd0", func := "turnstile/turnstilelaw04.GcraIntervals", spec := "gcraIntervals", inPlace := ["math/bits.Add64"], apart := false }
def GcraIntervalsSaid : Prop := gcraIntervalsRow.holds Try.pinned (OpenSpec.ofChange gcraIntervalsSpec)

/-- ITS FALSE NEIGHBOUR: 'it returns false'. Refute it at one input. -/
def gcraIntervalsWrong : ChangeSpec := { name := "gcraIntervals", fn := fun _ => fun
  | [d1, d2, d3] => { results := [.lit (.bool false)], args := [d1, d2, d3] }
  | _ => none }
def GcraIntervalsWrongFalsely : Prop := gcraIntervalsRow.holds Try.pinned (OpenSpec.ofChange gcraIntervalsWrong)

/- THE SECOND FORM. 'bulk': how many values and letters a reading holds, each counted each time it is reached (what is shared counts as often as it is met; a slice's spare places count too). A statement '..UptoSaid' is the law's where the arguments, and the package variables that the reading takes, are together of bulk at most 1048576: NARROWER than '..Said'. Prove '..Said' where nothing that the law and all that it calls make is longer than what came in: it says more and counts as full. Else prove '..UptoSaid'. A law counts once. -/
mutual
def uptoBulk {H : Type} : DataW H → Nat
  | .lit (.string bytes) => bytes.length + 1
  | .lit _ => 1
  | .nil => 1
  | .ptr d => uptoBulk d + 1
  | .slice elems spare => uptoBulkAll elems + uptoBulkAll spare + 1
  | .agg parts => uptoBulkAll parts + 1
  | .iface _ d => uptoBulk d + 1
  | .map entries => uptoBulkEntries entries + 1
  | .held _ => 1
def uptoBulkAll {H : Type} : List (DataW H) → Nat
  | [] => 0
  | d :: r => uptoBulk d + uptoBulkAll r
def uptoBulkEntries {H : Type} : List (Lit × DataW H) → Nat
  | [] => 0
  | x :: r => uptoBulkEntry x + uptoBulkEntries r
def uptoBulkEntry {H : Type} : Lit × DataW H → Nat
  | (.string bytes, d) => bytes.length + uptoBulk d + 1
  | (_, d) => uptoBulk d + 1
 end
def uptoSmall : (H : Type) → List (DataW H) → Bool := fun _ ds => decide (uptoBulkAll ds ≤ 1048576)
def OpenSpec.upto (s : _root_.Go.ChangeSpec) : _root_.Go.OpenSpec := { _root_.Go.OpenSpec.ofChange s with cond := some uptoSmall }

/-- 'turnstilelaw04.GcraAdmits', WHERE WHAT IT READS IS OF BULK AT MOST 1048576: true; the input reads as it did. -/
def gcraAdmitsUptoRow : OpenClaim := { program := "ytipbpppdifplbaa", sum := "731d0285f4e6317b8c39cabe9840fbc751ee0c0db77c4169e2e37bb678f9cfd0", func := "turnstile/turnstilelaw04.GcraAdmits", spec := "gcraAdmits", inPlace := ["math/bits.Add64"], apart := false, narrowed := true }
def GcraAdmitsUptoSaid : Prop := gcraAdmitsUptoRow.holds Try.pinned (OpenSpec.upto gcraAdmitsSpec)

/-- 'turnstilelaw04.GcraRetries', WHERE WHAT IT READS IS OF BULK AT MOST 1048576: true; the input reads as it did. -/
def gcraRetriesUptoRow : OpenClaim := { program := "ytipbpppdifplbaa", sum := "731d0285f4e6317b8c39cabe9840fbc751ee0c0db77c4169e2e37bb678f9cfd0", func := "turnstile/turnstilelaw04.GcraRetries", spec := "gcraRetries", inPlace := ["math/bits.Add64"], apart := false, narrowed := true }
def GcraRetriesUptoSaid : Prop := gcraRetriesUptoRow.holds Try.pinned (OpenSpec.upto gcraRetriesSpec)

/-- 'turnstilelaw04.GcraLeast', WHERE WHAT IT READS IS OF BULK AT MOST 1048576: true; the input reads as it did. -/
def gcraLeastUptoRow : OpenClaim := { program := "ytipbpppdifplbaa", sum := "731d0285f4e6317b8c39cabe9840fbc751ee0c0db77c4169e2e37bb678f9cfd0", func := "turnstile/turnstilelaw04.GcraLeast", spec := "gcraLeast", inPlace := ["math/bits.Add64"], apart := false, narrowed := true }
def GcraLeastUptoSaid : Prop := gcraLeastUptoRow.holds Try.pinned (OpenSpec.upto gcraLeastSpec)

/-- 'turnstilelaw04.GcraMost', WHERE WHAT IT READS IS OF BULK AT MOST 1048576: true; the input reads as it did. -/
def gcraMostUptoRow : OpenClaim := { program := "ytipbpppdifplbaa", sum := "731d0285f4e6317b8c39cabe9840fbc751ee0c0db77c4169e2e37bb678f9cfd0", func := "turnstile/turnstilelaw04.GcraMost", spec := "gcraMost", inPlace := ["math/bits.Add64"], apart := false, narrowed := true }
def GcraMostUptoSaid : Prop := gcraMostUptoRow.holds Try.pinned (OpenSpec.upto gcraMostSpec)

/-- 'turnstilelaw04.GcraSplits', WHERE WHAT IT READS IS OF BULK AT MOST 1048576: true; the input reads as it did. -/
def gcraSplitsUptoRow : OpenClaim := { program := "ytipbpppdifplbaa", sum := "731d0285f4e6317b8c39cabe9840fbc751ee0c0db77c4169e2e37bb678f9cfd0", func := "turnstile/turnstilelaw04.GcraSplits", spec := "gcraSplits", inPlace := ["math/bits.Add64"], apart := false, narrowed := true }
def GcraSplitsUptoSaid : Prop := gcraSplitsUptoRow.holds Try.pinned (OpenSpec.upto gcraSplitsSpec)

/-- 'turnstilelaw04.GcraLesser', WHERE WHAT IT READS IS OF BULK AT MOST 1048576: true; the input reads as it did. -/
def gcraLesserUptoRow : OpenClaim := { program := "ytipbpppdifplbaa", sum := "731d0285f4e6317b8c39cabe9840fbc751ee0c0db77c4169e2e37bb678f9cfd0", func := "turnstile/turnstilelaw04.GcraLesser", spec := "gcraLesser", inPlace := ["math/bits.Add64"], apart := false, narrowed := true }
def GcraLesserUptoSaid : Prop := gcraLesserUptoRow.holds Try.pinned (OpenSpec.upto gcraLesserSpec)

/-- 'turnstilelaw04.GcraIntervals', WHERE WHAT IT READS IS OF BULK AT MOST 1048576: true; the input reads as it did. -/
def gcraIntervalsUptoRow : OpenClaim := { program := "ytipbpppdifplbaa", sum := "731d0285f4e6317b8c39cabe9840fbc751ee0c0db77c4169e2e37bb678f9cfd0", func := "turnstile/turnstilelaw04.GcraIntervals", spec := "gcraIntervals", inPlace := ["math/bits.Add64"], apart := false, narrowed := true }
def GcraIntervalsUptoSaid : Prop := gcraIntervalsUptoRow.holds Try.pinned (OpenSpec.upto gcraIntervalsSpec)

end Rows
end Go.Proofs.Ytipbpppdifplbaa
