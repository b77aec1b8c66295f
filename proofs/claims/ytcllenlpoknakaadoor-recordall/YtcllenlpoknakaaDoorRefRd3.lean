/- The reference's reader of layer 1: its whole calls, Text and Number. -/
import Derived.Test.YtcllenlpoknakaaDoorRefRd2
import Derived.Deep.QuietTactic
import Derived.BigQuiet
set_option linter.unusedVariables false
namespace Go.Proofs.YtcllenlpoknakaaDoor
open Go Go.RowKit


theorem cA_lt (n : Nat) (bs : List UInt8) (c : Nat) : cA n bs c < 256 ^ n := by
  unfold cA
  split
  · have := unle_lt (bs.take n)
    rwa [show (bs.take n).length = n by simp; omega] at this
  · exact Nat.pow_pos (by omega)


/-! Text. -/
def tA (bs : List UInt8) (c : Nat) : List UInt8 := if c = 0 ∧ textOk bs then (bs.drop 2).take (unle (bs.take 2)) else []
def tL (bs : List UInt8) (c : Nat) : List UInt8 := if c = 0 ∧ textOk bs then bs.drop (2 + unle (bs.take 2)) else bs
def tF (bs : List UInt8) (c : Nat) : Nat := if c = 0 then (if textOk bs then 0 else 2) else c



theorem take2 : ∀ (bs : List UInt8) (h : 2 ≤ bs.length), bs.take 2 = [bs[0]'(by omega), bs[1]'(by omega)]
  | _ :: _ :: _, _ => rfl



/-! Number. -/
def grp : Nat → List UInt8 → Nat
  | _, [] => 0
  | i, c :: r => if i = 10 then 0 else if c.toNat < 128 then i + 1 else grp (i + 1) r

end Go.Proofs.YtcllenlpoknakaaDoor
