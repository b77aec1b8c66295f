/- The reference's reader of layer 1: numbers of 1, 2, 4 and 8 bytes. -/
import Derived.Test.YtcllenlpoknakaaDoorRefRd
set_option linter.unusedVariables false
namespace Go.Proofs.YtcllenlpoknakaaDoor
open Go Go.RowKit

def cA (n : Nat) (bs : List UInt8) (c : Nat) : Nat := if c = 0 ∧ n ≤ bs.length then unle (bs.take n) else 0
def cL (n : Nat) (bs : List UInt8) (c : Nat) : List UInt8 := if c = 0 ∧ n ≤ bs.length then bs.drop n else bs
def cF (n : Nat) (bs : List UInt8) (c : Nat) : Nat := if c = 0 then (if n ≤ bs.length then 0 else 2) else c



theorem wrap_step (X q : Nat) (hX : Hid (X < 2 ^ 56)) (hq : Hid (q < 256)) : Value.int IntKind.u64 (IntKind.u64.wrap (IntKind.u64.wrap ((X : Int) * 256) + IntKind.u64.wrap (q : Int))) = Value.int .u64 ((X * 256 + q : Nat) : Int) := by
  have h1 := hX.out
  have h2 := hq.out
  congr 1
  rw [IntKind.wrap_u64, IntKind.wrap_u64, IntKind.wrap_u64]
  omega

end Go.Proofs.YtcllenlpoknakaaDoor
