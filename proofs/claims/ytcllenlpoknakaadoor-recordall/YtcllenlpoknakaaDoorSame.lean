/- The number of an error by turnstilesame: Of, Is. -/
import Derived.Test.YtcllenlpoknakaaDoorErrs
import Derived.Test.YtcllenlpoknakaaDoorRefNum2
set_option linter.unusedVariables false
namespace Go.Proofs.YtcllenlpoknakaaDoor
open Go Go.RowKit

/-- All errors of the package api, by their variables. -/
def allErrs : List Nat := [
  0,
  1,
  2,
  3,
  5,
  6,
  7,
  8,
  9,
  10,
  11,
  12,
  13,
  14,
  4]
/-- Their texts are unlike. -/
def Unlike (txt : Nat → List UInt8) : Prop := ∀ g, g ∈ allErrs → ∀ k, k ∈ allErrs → g ≠ k → txt g ≠ txt k

theorem ErrSet.other {txt : Nat → List UInt8} {w : World} {ad : Nat → Addr} (h : ErrSet allErrs txt w ad) (hu : Unlike txt) (g k : Nat) (hg : g ∈ allErrs) (hk : k ∈ allErrs) (hne : g ≠ k) :
    (binOp .eql 37 (E (ad g)) (E (ad k))).run Tryd.prog w = .ok (.bool false) w := eq_other (h g hg).2 (h k hk).2 (hu g hg k hk hne)

theorem Of_none (w : World) : Calls Tryd.prog 40 #[.nilIface] w fun e w' => e = .returned (.int .i64 0) ∧ w' = w := by
  go_enter Tryd.func40, Tryd.ntmps40
  go_wp2
  go_ret
  exact ⟨rfl, rfl⟩

set_option maxHeartbeats 800000 in
theorem Of_Short (txt : Nat → List UInt8) (w : World) (ad : Nat → Addr) (h : ErrSet allErrs txt w ad) (hu : Unlike txt) :
    Calls Tryd.prog 40 #[E (ad 1)] w fun e w' => e = .returned (.int .i64 2) ∧ w' = w := by
  have cArg := (h 0 (by decide)).1.cell
  have cShort := (h 1 (by decide)).1.cell
  have nArg := h.other hu 1 0 (by decide) (by decide) (by decide)
  have sShort := eq_same (ad 1)
  clear h hu
  generalize ad 0 = aArg at *
  generalize ad 1 = aShort at *
  go_enter Tryd.func40, Tryd.ntmps40
  go_wp2
  go_ret
  exact ⟨rfl, rfl⟩

set_option maxHeartbeats 800000 in
theorem Of_Form (txt : Nat → List UInt8) (w : World) (ad : Nat → Addr) (h : ErrSet allErrs txt w ad) (hu : Unlike txt) :
    Calls Tryd.prog 40 #[E (ad 2)] w fun e w' => e = .returned (.int .i64 3) ∧ w' = w := by
  have cArg := (h 0 (by decide)).1.cell
  have cShort := (h 1 (by decide)).1.cell
  have cForm := (h 2 (by decide)).1.cell
  have nArg := h.other hu 2 0 (by decide) (by decide) (by decide)
  have nShort := h.other hu 2 1 (by decide) (by decide) (by decide)
  have sForm := eq_same (ad 2)
  clear h hu
  generalize ad 0 = aArg at *
  generalize ad 1 = aShort at *
  generalize ad 2 = aForm at *
  go_enter Tryd.func40, Tryd.ntmps40
  go_wp2
  go_ret
  exact ⟨rfl, rfl⟩

set_option maxHeartbeats 800000 in
theorem Of_Long (txt : Nat → List UInt8) (w : World) (ad : Nat → Addr) (h : ErrSet allErrs txt w ad) (hu : Unlike txt) :
    Calls Tryd.prog 40 #[E (ad 3)] w fun e w' => e = .returned (.int .i64 4) ∧ w' = w := by
  have cArg := (h 0 (by decide)).1.cell
  have cShort := (h 1 (by decide)).1.cell
  have cForm := (h 2 (by decide)).1.cell
  have cLong := (h 3 (by decide)).1.cell
  have nArg := h.other hu 3 0 (by decide) (by decide) (by decide)
  have nShort := h.other hu 3 1 (by decide) (by decide) (by decide)
  have nForm := h.other hu 3 2 (by decide) (by decide) (by decide)
  have sLong := eq_same (ad 3)
  clear h hu
  generalize ad 0 = aArg at *
  generalize ad 1 = aShort at *
  generalize ad 2 = aForm at *
  generalize ad 3 = aLong at *
  go_enter Tryd.func40, Tryd.ntmps40
  go_wp2
  go_ret
  exact ⟨rfl, rfl⟩

set_option maxHeartbeats 800000 in
theorem Of_Nil (txt : Nat → List UInt8) (w : World) (ad : Nat → Addr) (h : ErrSet allErrs txt w ad) (hu : Unlike txt) :
    Calls Tryd.prog 40 #[E (ad 4)] w fun e w' => e = .returned (.int .i64 15) ∧ w' = w := by
  have cArg := (h 0 (by decide)).1.cell
  have cShort := (h 1 (by decide)).1.cell
  have cForm := (h 2 (by decide)).1.cell
  have cLong := (h 3 (by decide)).1.cell
  have cSum := (h 5 (by decide)).1.cell
  have cIo := (h 6 (by decide)).1.cell
  have cDown := (h 7 (by decide)).1.cell
  have cGone := (h 8 (by decide)).1.cell
  have cThere := (h 9 (by decide)).1.cell
  have cImage := (h 10 (by decide)).1.cell
  have cGap := (h 11 (by decide)).1.cell
  have cLog := (h 12 (by decide)).1.cell
  have cSick := (h 13 (by decide)).1.cell
  have cConfig := (h 14 (by decide)).1.cell
  have cNil := (h 4 (by decide)).1.cell
  have nArg := h.other hu 4 0 (by decide) (by decide) (by decide)
  have nShort := h.other hu 4 1 (by decide) (by decide) (by decide)
  have nForm := h.other hu 4 2 (by decide) (by decide) (by decide)
  have nLong := h.other hu 4 3 (by decide) (by decide) (by decide)
  have nSum := h.other hu 4 5 (by decide) (by decide) (by decide)
  have nIo := h.other hu 4 6 (by decide) (by decide) (by decide)
  have nDown := h.other hu 4 7 (by decide) (by decide) (by decide)
  have nGone := h.other hu 4 8 (by decide) (by decide) (by decide)
  have nThere := h.other hu 4 9 (by decide) (by decide) (by decide)
  have nImage := h.other hu 4 10 (by decide) (by decide) (by decide)
  have nGap := h.other hu 4 11 (by decide) (by decide) (by decide)
  have nLog := h.other hu 4 12 (by decide) (by decide) (by decide)
  have nSick := h.other hu 4 13 (by decide) (by decide) (by decide)
  have nConfig := h.other hu 4 14 (by decide) (by decide) (by decide)
  have sNil := eq_same (ad 4)
  clear h hu
  generalize ad 0 = aArg at *
  generalize ad 1 = aShort at *
  generalize ad 2 = aForm at *
  generalize ad 3 = aLong at *
  generalize ad 5 = aSum at *
  generalize ad 6 = aIo at *
  generalize ad 7 = aDown at *
  generalize ad 8 = aGone at *
  generalize ad 9 = aThere at *
  generalize ad 10 = aImage at *
  generalize ad 11 = aGap at *
  generalize ad 12 = aLog at *
  generalize ad 13 = aSick at *
  generalize ad 14 = aConfig at *
  generalize ad 4 = aNil at *
  go_enter Tryd.func40, Tryd.ntmps40
  go_wp2
  go_ret
  exact ⟨rfl, rfl⟩

/-- turnstilesame.Is where Of answers k. -/
theorem Is_of (v : Value) (k d : Nat) (w : World) (h : Calls Tryd.prog 40 #[v] w fun e w' => e = .returned (.int .i64 (k : Int)) ∧ w' = w) :
    Calls Tryd.prog 19 #[v, .int .i64 (d : Int)] w fun e w' => e = .returned (.bool (decide (k = d))) ∧ w' = w := by
  have he : Hid (((k : Int) == (d : Int)) = decide (k = d)) := by
    show _ = _
    by_cases h : k = d
    · simp [h]
    · simp [h]; omega
  go_enter Tryd.func19, Tryd.ntmps19
  go_wp2_with fail
  refine h.mono ?_
  rintro e w1 ⟨rfl, rfl⟩
  clear h
  go_wp2
  go_ret
  exact ⟨congrArg (fun b => Ending.returned (.bool b)) he.out, rfl⟩
end Go.Proofs.YtcllenlpoknakaaDoor
