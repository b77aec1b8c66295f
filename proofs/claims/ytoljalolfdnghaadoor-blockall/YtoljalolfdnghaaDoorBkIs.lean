/- block: the number of an error that block answers. -/
import Derived.Test.YtoljalolfdnghaaDoorBkRefS
import Derived.Test.YtoljalolfdnghaaDoorBkRefP
import Derived.Test.YtoljalolfdnghaaDoorBkKn
import Derived.Test.YtoljalolfdnghaaDoorSame
set_option linter.unusedVariables false
set_option linter.unusedSimpArgs false
namespace Go.Proofs.YtoljalolfdnghaaDoor
open Go Go.RowKit

set_option maxHeartbeats 800000 in
theorem Of_Arg (txt : Nat → List UInt8) (w : World) (ad : Nat → Addr) (h : ErrSet allErrs txt w ad) (hu : Unlike txt) :
    Calls Tryd.prog 44 #[E (ad 0)] w fun e w' => e = .returned (.int .i64 1) ∧ w' = w := by
  have cArg := (h 0 (by decide)).1.cell
  have sArg := eq_same (ad 0)
  clear h hu
  generalize ad 0 = aArg at *
  go_enter Tryd.func44, Tryd.ntmps44
  go_wp2
  go_ret
  exact ⟨rfl, rfl⟩

set_option maxHeartbeats 800000 in
theorem Of_Sum (txt : Nat → List UInt8) (w : World) (ad : Nat → Addr) (h : ErrSet allErrs txt w ad) (hu : Unlike txt) :
    Calls Tryd.prog 44 #[E (ad 4)] w fun e w' => e = .returned (.int .i64 5) ∧ w' = w := by
  have cArg := (h 0 (by decide)).1.cell
  have cShort := (h 2 (by decide)).1.cell
  have cForm := (h 3 (by decide)).1.cell
  have cLong := (h 1 (by decide)).1.cell
  have cSum := (h 4 (by decide)).1.cell
  have nArg := h.other hu 4 0 (by decide) (by decide) (by decide)
  have nShort := h.other hu 4 2 (by decide) (by decide) (by decide)
  have nForm := h.other hu 4 3 (by decide) (by decide) (by decide)
  have nLong := h.other hu 4 1 (by decide) (by decide) (by decide)
  have sSum := eq_same (ad 4)
  clear h hu
  generalize ad 0 = aArg at *
  generalize ad 2 = aShort at *
  generalize ad 3 = aForm at *
  generalize ad 1 = aLong at *
  generalize ad 4 = aSum at *
  go_enter Tryd.func44, Tryd.ntmps44
  go_wp2
  go_ret
  exact ⟨rfl, rfl⟩

theorem Is_enc (first : Nat) (L : List Rec) (w : World) (ad : Nat → Addr) (h : ErrSet allErrs errTxt w ad) :
    Calls Tryd.prog 26 #[encE ad first L, .int .i64 (rencF first L : Nat)] w fun e w' => e = .returned (.bool true) ∧ w' = w := by
  unfold encE rencF
  split
  · split
    · exact Is_of _ 4 4 w (Of_Long errTxt w ad h errTxt_unlike)
    · exact Is_of _ 0 0 w (Of_none w)
  · exact Is_of _ 1 1 w (Of_Arg errTxt w ad h errTxt_unlike)
theorem Is_pk (first : Nat) (L : List Rec) (w : World) (ad : Nat → Addr) (h : ErrSet allErrs errTxt w ad) :
    Calls Tryd.prog 26 #[pkE ad first L, .int .i64 (rpkF first L : Nat)] w fun e w' => e = .returned (.bool true) ∧ w' = w := by
  unfold pkE rpkF
  split
  · exact Is_of _ 0 0 w (Of_none w)
  · split
    · split
      · exact Is_of _ 4 4 w (Of_Long errTxt w ad h errTxt_unlike)
      · exact Is_of _ 0 0 w (Of_none w)
    · exact Is_of _ 1 1 w (Of_Arg errTxt w ad h errTxt_unlike)
end Go.Proofs.YtoljalolfdnghaaDoor
