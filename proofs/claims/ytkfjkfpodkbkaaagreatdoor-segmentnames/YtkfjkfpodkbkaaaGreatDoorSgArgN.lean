/- segment: what SegmentNames' row lists of strconv's errors. -/
import Derived.Test.YtkfjkfpodkbkaaaGreatDoorMg40
import Derived.Test.YtkfjkfpodkbkaaaGreatDoorSgFirst
set_option linter.unusedVariables false
namespace Go.Proofs.YtkfjkfpodkbkaaaGreatDoor
open Go Go.RowKit Go.ChangeShapes Go.WideShapes

theorem Tryz.gSyntax : Tryz.prog.globalNamed "strconv.ErrSyntax" = some 12 := by kernel_rfl
theorem Tryz.gtSyntax : (Tryz.prog.globals[12]?).map (·.type) = some 40 := by kernel_rfl
theorem Tryz.gRange : Tryz.prog.globalNamed "strconv.ErrRange" = some 13 := by kernel_rfl
theorem Tryz.gtRange : (Tryz.prog.globals[13]?).map (·.type) = some 40 := by kernel_rfl
theorem sx_of {l : List (String × DataW Unit)} {W : World} (h : laidMetH Tryz.prog l W) (hp : (l.all fun x => x.2.handleName?.isNone) = true)
    (hS : (l.filter fun x => x.1 == "strconv.ErrSyntax") = [("strconv.ErrSyntax", .iface "*errors.errorString" (.ptr (.agg [.lit (.string (txtOf Rows.laid_strconv_ErrSyntax))])))])
    (hR : (l.filter fun x => x.1 == "strconv.ErrRange") = [("strconv.ErrRange", .iface "*errors.errorString" (.ptr (.agg [.lit (.string (txtOf Rows.laid_strconv_ErrRange))])))]) : Sx W := by
  obtain ⟨aS, kS⟩ := gl_of_laid h hS hp Tryz.gSyntax Tryz.gtSyntax
  obtain ⟨aR, kR⟩ := gl_of_laid h hR hp Tryz.gRange Tryz.gtRange
  exact ⟨⟨_, _, kS.1.cell⟩, ⟨_, _, kR.1.cell⟩⟩
end Go.Proofs.YtkfjkfpodkbkaaaGreatDoor
