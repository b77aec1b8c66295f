/- Merged: ErrTab. -/
import Derived.Test.YtcllenlpoknakaaDoorMr29
set_option linter.unusedVariables false
namespace Go.Proofs.YtcllenlpoknakaaDoor
open Go Go.RowKit Go.ChangeShapes Go.WideShapes

def txtOf : DataW Unit → List UInt8
  | .iface _ (.ptr (.agg [.lit (.string t)])) => t
  | _ => []
/-- The text of the error in the variable g. -/
def errTxt (g : Nat) : List UInt8 :=
  if g = 0 then txtOf Rows.laid_turnstile_api_ErrArg else
  if g = 1 then txtOf Rows.laid_turnstile_api_ErrShort else
  if g = 2 then txtOf Rows.laid_turnstile_api_ErrForm else
  if g = 3 then txtOf Rows.laid_turnstile_api_ErrLong else
  if g = 5 then txtOf Rows.laid_turnstile_api_ErrSum else
  if g = 6 then txtOf Rows.laid_turnstile_api_ErrIo else
  if g = 7 then txtOf Rows.laid_turnstile_api_ErrDown else
  if g = 8 then txtOf Rows.laid_turnstile_api_ErrGone else
  if g = 9 then txtOf Rows.laid_turnstile_api_ErrThere else
  if g = 10 then txtOf Rows.laid_turnstile_api_ErrImage else
  if g = 11 then txtOf Rows.laid_turnstile_api_ErrGap else
  if g = 12 then txtOf Rows.laid_turnstile_api_ErrLog else
  if g = 13 then txtOf Rows.laid_turnstile_api_ErrSick else
  if g = 14 then txtOf Rows.laid_turnstile_api_ErrConfig else
  txtOf Rows.laid_turnstile_api_ErrNil
theorem errTxt_unlike : Unlike errTxt := by
  unfold Unlike
  decide +kernel
theorem Tryd.gArg : Tryd.prog.globalNamed "turnstile/api.ErrArg" = some 0 := by kernel_rfl
theorem Tryd.gtArg : (Tryd.prog.globals[0]?).map (·.type) = some 37 := by kernel_rfl
theorem Tryd.gLong : Tryd.prog.globalNamed "turnstile/api.ErrLong" = some 3 := by kernel_rfl
theorem Tryd.gtLong : (Tryd.prog.globals[3]?).map (·.type) = some 37 := by kernel_rfl
theorem Tryd.gSum : Tryd.prog.globalNamed "turnstile/api.ErrSum" = some 5 := by kernel_rfl
theorem Tryd.gtSum : (Tryd.prog.globals[5]?).map (·.type) = some 37 := by kernel_rfl
theorem Tryd.gIo : Tryd.prog.globalNamed "turnstile/api.ErrIo" = some 6 := by kernel_rfl
theorem Tryd.gtIo : (Tryd.prog.globals[6]?).map (·.type) = some 37 := by kernel_rfl
theorem Tryd.gDown : Tryd.prog.globalNamed "turnstile/api.ErrDown" = some 7 := by kernel_rfl
theorem Tryd.gtDown : (Tryd.prog.globals[7]?).map (·.type) = some 37 := by kernel_rfl
theorem Tryd.gGone : Tryd.prog.globalNamed "turnstile/api.ErrGone" = some 8 := by kernel_rfl
theorem Tryd.gtGone : (Tryd.prog.globals[8]?).map (·.type) = some 37 := by kernel_rfl
theorem Tryd.gThere : Tryd.prog.globalNamed "turnstile/api.ErrThere" = some 9 := by kernel_rfl
theorem Tryd.gtThere : (Tryd.prog.globals[9]?).map (·.type) = some 37 := by kernel_rfl
theorem Tryd.gImage : Tryd.prog.globalNamed "turnstile/api.ErrImage" = some 10 := by kernel_rfl
theorem Tryd.gtImage : (Tryd.prog.globals[10]?).map (·.type) = some 37 := by kernel_rfl
theorem Tryd.gGap : Tryd.prog.globalNamed "turnstile/api.ErrGap" = some 11 := by kernel_rfl
theorem Tryd.gtGap : (Tryd.prog.globals[11]?).map (·.type) = some 37 := by kernel_rfl
theorem Tryd.gLog : Tryd.prog.globalNamed "turnstile/api.ErrLog" = some 12 := by kernel_rfl
theorem Tryd.gtLog : (Tryd.prog.globals[12]?).map (·.type) = some 37 := by kernel_rfl
theorem Tryd.gSick : Tryd.prog.globalNamed "turnstile/api.ErrSick" = some 13 := by kernel_rfl
theorem Tryd.gtSick : (Tryd.prog.globals[13]?).map (·.type) = some 37 := by kernel_rfl
theorem Tryd.gConfig : Tryd.prog.globalNamed "turnstile/api.ErrConfig" = some 14 := by kernel_rfl
theorem Tryd.gtConfig : (Tryd.prog.globals[14]?).map (·.type) = some 37 := by kernel_rfl

theorem errs_all {l : List (String × DataW Unit)} {W : World} (h : laidMetH Tryd.prog l W) (hp : (l.all fun x => x.2.handleName?.isNone) = true)
    (hArg : (l.filter fun x => x.1 == "turnstile/api.ErrArg") = [("turnstile/api.ErrArg", .iface "*errors.errorString" (.ptr (.agg [.lit (.string (errTxt 0))])))])
    (hShort : (l.filter fun x => x.1 == "turnstile/api.ErrShort") = [("turnstile/api.ErrShort", .iface "*errors.errorString" (.ptr (.agg [.lit (.string (errTxt 1))])))])
    (hForm : (l.filter fun x => x.1 == "turnstile/api.ErrForm") = [("turnstile/api.ErrForm", .iface "*errors.errorString" (.ptr (.agg [.lit (.string (errTxt 2))])))])
    (hLong : (l.filter fun x => x.1 == "turnstile/api.ErrLong") = [("turnstile/api.ErrLong", .iface "*errors.errorString" (.ptr (.agg [.lit (.string (errTxt 3))])))])
    (hSum : (l.filter fun x => x.1 == "turnstile/api.ErrSum") = [("turnstile/api.ErrSum", .iface "*errors.errorString" (.ptr (.agg [.lit (.string (errTxt 5))])))])
    (hIo : (l.filter fun x => x.1 == "turnstile/api.ErrIo") = [("turnstile/api.ErrIo", .iface "*errors.errorString" (.ptr (.agg [.lit (.string (errTxt 6))])))])
    (hDown : (l.filter fun x => x.1 == "turnstile/api.ErrDown") = [("turnstile/api.ErrDown", .iface "*errors.errorString" (.ptr (.agg [.lit (.string (errTxt 7))])))])
    (hGone : (l.filter fun x => x.1 == "turnstile/api.ErrGone") = [("turnstile/api.ErrGone", .iface "*errors.errorString" (.ptr (.agg [.lit (.string (errTxt 8))])))])
    (hThere : (l.filter fun x => x.1 == "turnstile/api.ErrThere") = [("turnstile/api.ErrThere", .iface "*errors.errorString" (.ptr (.agg [.lit (.string (errTxt 9))])))])
    (hImage : (l.filter fun x => x.1 == "turnstile/api.ErrImage") = [("turnstile/api.ErrImage", .iface "*errors.errorString" (.ptr (.agg [.lit (.string (errTxt 10))])))])
    (hGap : (l.filter fun x => x.1 == "turnstile/api.ErrGap") = [("turnstile/api.ErrGap", .iface "*errors.errorString" (.ptr (.agg [.lit (.string (errTxt 11))])))])
    (hLog : (l.filter fun x => x.1 == "turnstile/api.ErrLog") = [("turnstile/api.ErrLog", .iface "*errors.errorString" (.ptr (.agg [.lit (.string (errTxt 12))])))])
    (hSick : (l.filter fun x => x.1 == "turnstile/api.ErrSick") = [("turnstile/api.ErrSick", .iface "*errors.errorString" (.ptr (.agg [.lit (.string (errTxt 13))])))])
    (hConfig : (l.filter fun x => x.1 == "turnstile/api.ErrConfig") = [("turnstile/api.ErrConfig", .iface "*errors.errorString" (.ptr (.agg [.lit (.string (errTxt 14))])))])
    (hNil : (l.filter fun x => x.1 == "turnstile/api.ErrNil") = [("turnstile/api.ErrNil", .iface "*errors.errorString" (.ptr (.agg [.lit (.string (errTxt 4))])))])
    : ∃ ad, ErrSet allErrs errTxt W ad := by
  obtain ⟨aArg, kArg⟩ := gl_of_laid h hArg hp Tryd.gArg Tryd.gtArg
  obtain ⟨aShort, kShort⟩ := gl_of_laid h hShort hp Tryd.gShort Tryd.gtShort
  obtain ⟨aForm, kForm⟩ := gl_of_laid h hForm hp Tryd.gForm Tryd.gtForm
  obtain ⟨aLong, kLong⟩ := gl_of_laid h hLong hp Tryd.gLong Tryd.gtLong
  obtain ⟨aSum, kSum⟩ := gl_of_laid h hSum hp Tryd.gSum Tryd.gtSum
  obtain ⟨aIo, kIo⟩ := gl_of_laid h hIo hp Tryd.gIo Tryd.gtIo
  obtain ⟨aDown, kDown⟩ := gl_of_laid h hDown hp Tryd.gDown Tryd.gtDown
  obtain ⟨aGone, kGone⟩ := gl_of_laid h hGone hp Tryd.gGone Tryd.gtGone
  obtain ⟨aThere, kThere⟩ := gl_of_laid h hThere hp Tryd.gThere Tryd.gtThere
  obtain ⟨aImage, kImage⟩ := gl_of_laid h hImage hp Tryd.gImage Tryd.gtImage
  obtain ⟨aGap, kGap⟩ := gl_of_laid h hGap hp Tryd.gGap Tryd.gtGap
  obtain ⟨aLog, kLog⟩ := gl_of_laid h hLog hp Tryd.gLog Tryd.gtLog
  obtain ⟨aSick, kSick⟩ := gl_of_laid h hSick hp Tryd.gSick Tryd.gtSick
  obtain ⟨aConfig, kConfig⟩ := gl_of_laid h hConfig hp Tryd.gConfig Tryd.gtConfig
  obtain ⟨aNil, kNil⟩ := gl_of_laid h hNil hp Tryd.gNil Tryd.gtNil
  refine ⟨fun g =>
    if g = 0 then aArg else
    if g = 1 then aShort else
    if g = 2 then aForm else
    if g = 3 then aLong else
    if g = 5 then aSum else
    if g = 6 then aIo else
    if g = 7 then aDown else
    if g = 8 then aGone else
    if g = 9 then aThere else
    if g = 10 then aImage else
    if g = 11 then aGap else
    if g = 12 then aLog else
    if g = 13 then aSick else
    if g = 14 then aConfig else
    aNil, fun g hg => ?_⟩
  simp only [allErrs, List.mem_cons, List.not_mem_nil, or_false] at hg
  rcases hg with rfl | rfl | rfl | rfl | rfl | rfl | rfl | rfl | rfl | rfl | rfl | rfl | rfl | rfl | rfl
  · exact kArg
  · exact kShort
  · exact kForm
  · exact kLong
  · exact kSum
  · exact kIo
  · exact kDown
  · exact kGone
  · exact kThere
  · exact kImage
  · exact kGap
  · exact kLog
  · exact kSick
  · exact kConfig
  · exact kNil
end Go.Proofs.YtcllenlpoknakaaDoor
