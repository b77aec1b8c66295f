/- image (pack's Same and ErrTab, over fewer texts): the numbers of errors, their texts, where they lie, out of a row that lists them. Own work. -/
import Derived.Test.YtooclofdljampaaDoorErrs
import Derived.Test.YtooclofdljampaaDoorArgs
set_option linter.unusedVariables false
namespace Go.Proofs.YtooclofdljampaaDoor
open Go Go.RowKit Go.ChangeShapes Go.WideShapes

/-- All errors of the package api, by their variables. -/
def allErrs : List Nat := [
  0,
  1,
  2,
  4,
  3,
  5,
  6,
  7,
  8,
  9,
  10,
  11,
  12,
  13,
  14]
/-- Their texts are unlike. -/
def Unlike (txt : Nat → List UInt8) : Prop := ∀ g, g ∈ allErrs → ∀ k, k ∈ allErrs → g ≠ k → txt g ≠ txt k

theorem ErrSet.other {txt : Nat → List UInt8} {w : World} {ad : Nat → Addr} (h : ErrSet allErrs txt w ad) (hu : Unlike txt) (g k : Nat) (hg : g ∈ allErrs) (hk : k ∈ allErrs) (hne : g ≠ k) :
    (binOp .eql 35 (E (ad g)) (E (ad k))).run Tryd.prog w = .ok (.bool false) w := eq_other (h g hg).2 (h k hk).2 (hu g hg k hk hne)

theorem Of_none (w : World) : Calls Tryd.prog 38 #[.nilIface] w fun e w' => e = .returned (.int .i64 0) ∧ w' = w := by
  go_enter Tryd.func38, Tryd.ntmps38
  go_wp2
  go_ret
  exact ⟨rfl, rfl⟩

set_option maxHeartbeats 800000 in
theorem Of_Short (txt : Nat → List UInt8) (w : World) (ad : Nat → Addr) (h : ErrSet allErrs txt w ad) (hu : Unlike txt) :
    Calls Tryd.prog 38 #[E (ad 1)] w fun e w' => e = .returned (.int .i64 2) ∧ w' = w := by
  have cArg := (h 0 (by decide)).1.cell
  have cShort := (h 1 (by decide)).1.cell
  have nArg := h.other hu 1 0 (by decide) (by decide) (by decide)
  have sShort := eq_same (ad 1)
  clear h hu
  generalize ad 0 = aArg at *
  generalize ad 1 = aShort at *
  go_enter Tryd.func38, Tryd.ntmps38
  go_wp2
  go_ret
  exact ⟨rfl, rfl⟩

set_option maxHeartbeats 800000 in
theorem Of_Form (txt : Nat → List UInt8) (w : World) (ad : Nat → Addr) (h : ErrSet allErrs txt w ad) (hu : Unlike txt) :
    Calls Tryd.prog 38 #[E (ad 2)] w fun e w' => e = .returned (.int .i64 3) ∧ w' = w := by
  have cArg := (h 0 (by decide)).1.cell
  have cShort := (h 1 (by decide)).1.cell
  have cForm := (h 2 (by decide)).1.cell
  have nArg := h.other hu 2 0 (by decide) (by decide) (by decide)
  have nShort := h.other hu 2 1 (by decide) (by decide) (by decide)
  have sForm := eq_same (ad 2)
  clear h hu
  generalize ad 0 = aArg at *
  generalize ad 1 = aShort at *
  generalize ad 2 = aForm at *
  go_enter Tryd.func38, Tryd.ntmps38
  go_wp2
  go_ret
  exact ⟨rfl, rfl⟩

set_option maxHeartbeats 800000 in
theorem Of_Long (txt : Nat → List UInt8) (w : World) (ad : Nat → Addr) (h : ErrSet allErrs txt w ad) (hu : Unlike txt) :
    Calls Tryd.prog 38 #[E (ad 4)] w fun e w' => e = .returned (.int .i64 4) ∧ w' = w := by
  have cArg := (h 0 (by decide)).1.cell
  have cShort := (h 1 (by decide)).1.cell
  have cForm := (h 2 (by decide)).1.cell
  have cLong := (h 4 (by decide)).1.cell
  have nArg := h.other hu 4 0 (by decide) (by decide) (by decide)
  have nShort := h.other hu 4 1 (by decide) (by decide) (by decide)
  have nForm := h.other hu 4 2 (by decide) (by decide) (by decide)
  have sLong := eq_same (ad 4)
  clear h hu
  generalize ad 0 = aArg at *
  generalize ad 1 = aShort at *
  generalize ad 2 = aForm at *
  generalize ad 4 = aLong at *
  go_enter Tryd.func38, Tryd.ntmps38
  go_wp2
  go_ret
  exact ⟨rfl, rfl⟩

set_option maxHeartbeats 800000 in
theorem Of_Nil (txt : Nat → List UInt8) (w : World) (ad : Nat → Addr) (h : ErrSet allErrs txt w ad) (hu : Unlike txt) :
    Calls Tryd.prog 38 #[E (ad 14)] w fun e w' => e = .returned (.int .i64 15) ∧ w' = w := by
  have cArg := (h 0 (by decide)).1.cell
  have cShort := (h 1 (by decide)).1.cell
  have cForm := (h 2 (by decide)).1.cell
  have cLong := (h 4 (by decide)).1.cell
  have cSum := (h 3 (by decide)).1.cell
  have cIo := (h 5 (by decide)).1.cell
  have cDown := (h 6 (by decide)).1.cell
  have cGone := (h 7 (by decide)).1.cell
  have cThere := (h 8 (by decide)).1.cell
  have cImage := (h 9 (by decide)).1.cell
  have cGap := (h 10 (by decide)).1.cell
  have cLog := (h 11 (by decide)).1.cell
  have cSick := (h 12 (by decide)).1.cell
  have cConfig := (h 13 (by decide)).1.cell
  have cNil := (h 14 (by decide)).1.cell
  have nArg := h.other hu 14 0 (by decide) (by decide) (by decide)
  have nShort := h.other hu 14 1 (by decide) (by decide) (by decide)
  have nForm := h.other hu 14 2 (by decide) (by decide) (by decide)
  have nLong := h.other hu 14 4 (by decide) (by decide) (by decide)
  have nSum := h.other hu 14 3 (by decide) (by decide) (by decide)
  have nIo := h.other hu 14 5 (by decide) (by decide) (by decide)
  have nDown := h.other hu 14 6 (by decide) (by decide) (by decide)
  have nGone := h.other hu 14 7 (by decide) (by decide) (by decide)
  have nThere := h.other hu 14 8 (by decide) (by decide) (by decide)
  have nImage := h.other hu 14 9 (by decide) (by decide) (by decide)
  have nGap := h.other hu 14 10 (by decide) (by decide) (by decide)
  have nLog := h.other hu 14 11 (by decide) (by decide) (by decide)
  have nSick := h.other hu 14 12 (by decide) (by decide) (by decide)
  have nConfig := h.other hu 14 13 (by decide) (by decide) (by decide)
  have sNil := eq_same (ad 14)
  clear h hu
  generalize ad 0 = aArg at *
  generalize ad 1 = aShort at *
  generalize ad 2 = aForm at *
  generalize ad 4 = aLong at *
  generalize ad 3 = aSum at *
  generalize ad 5 = aIo at *
  generalize ad 6 = aDown at *
  generalize ad 7 = aGone at *
  generalize ad 8 = aThere at *
  generalize ad 9 = aImage at *
  generalize ad 10 = aGap at *
  generalize ad 11 = aLog at *
  generalize ad 12 = aSick at *
  generalize ad 13 = aConfig at *
  generalize ad 14 = aNil at *
  go_enter Tryd.func38, Tryd.ntmps38
  go_wp2
  go_ret
  exact ⟨rfl, rfl⟩

/-- turnstilesame.Is where Of answers k. -/
theorem Is_of (v : Value) (k d : Nat) (w : World) (h : Calls Tryd.prog 38 #[v] w fun e w' => e = .returned (.int .i64 (k : Int)) ∧ w' = w) :
    Calls Tryd.prog 22 #[v, .int .i64 (d : Int)] w fun e w' => e = .returned (.bool (decide (k = d))) ∧ w' = w := by
  have he : Hid (((k : Int) == (d : Int)) = decide (k = d)) := by
    show _ = _
    by_cases h : k = d
    · simp [h]
    · simp [h]; omega
  go_enter Tryd.func22, Tryd.ntmps22
  go_wp2_with fail
  refine h.mono ?_
  rintro e w1 ⟨rfl, rfl⟩
  clear h
  go_wp2
  go_ret
  exact ⟨congrArg (fun b => Ending.returned (.bool b)) he.out, rfl⟩
def txtOf : DataW Unit → List UInt8
  | .iface _ (.ptr (.agg [.lit (.string t)])) => t
  | _ => []
/-- The text of the error in the variable g. -/
def errTxt (g : Nat) : List UInt8 :=
  if g = 0 then txtOf Rows.laid_turnstile_api_ErrArg else
  if g = 1 then txtOf Rows.laid_turnstile_api_ErrShort else
  if g = 2 then txtOf Rows.laid_turnstile_api_ErrForm else
  if g = 4 then txtOf Rows.laid_turnstile_api_ErrLong else
  if g = 3 then txtOf Rows.laid_turnstile_api_ErrSum else
  if g = 5 then txtOf Rows.laid_turnstile_api_ErrIo else
  if g = 6 then txtOf Rows.laid_turnstile_api_ErrDown else
  if g = 7 then txtOf Rows.laid_turnstile_api_ErrGone else
  if g = 8 then txtOf Rows.laid_turnstile_api_ErrThere else
  if g = 9 then txtOf Rows.laid_turnstile_api_ErrImage else
  if g = 10 then txtOf Rows.laid_turnstile_api_ErrGap else
  if g = 11 then txtOf Rows.laid_turnstile_api_ErrLog else
  if g = 12 then txtOf Rows.laid_turnstile_api_ErrSick else
  if g = 13 then txtOf Rows.laid_turnstile_api_ErrConfig else
  txtOf Rows.laid_turnstile_api_ErrNil
theorem errTxt_unlike : Unlike errTxt := by
  unfold Unlike
  decide +kernel
theorem Tryd.gArg : Tryd.prog.globalNamed "turnstile/api.ErrArg" = some 0 := by kernel_rfl
theorem Tryd.gtArg : (Tryd.prog.globals[0]?).map (·.type) = some 35 := by kernel_rfl
theorem Tryd.gLong : Tryd.prog.globalNamed "turnstile/api.ErrLong" = some 4 := by kernel_rfl
theorem Tryd.gtLong : (Tryd.prog.globals[4]?).map (·.type) = some 35 := by kernel_rfl
theorem Tryd.gSum : Tryd.prog.globalNamed "turnstile/api.ErrSum" = some 3 := by kernel_rfl
theorem Tryd.gtSum : (Tryd.prog.globals[3]?).map (·.type) = some 35 := by kernel_rfl
theorem Tryd.gIo : Tryd.prog.globalNamed "turnstile/api.ErrIo" = some 5 := by kernel_rfl
theorem Tryd.gtIo : (Tryd.prog.globals[5]?).map (·.type) = some 35 := by kernel_rfl
theorem Tryd.gDown : Tryd.prog.globalNamed "turnstile/api.ErrDown" = some 6 := by kernel_rfl
theorem Tryd.gtDown : (Tryd.prog.globals[6]?).map (·.type) = some 35 := by kernel_rfl
theorem Tryd.gGone : Tryd.prog.globalNamed "turnstile/api.ErrGone" = some 7 := by kernel_rfl
theorem Tryd.gtGone : (Tryd.prog.globals[7]?).map (·.type) = some 35 := by kernel_rfl
theorem Tryd.gThere : Tryd.prog.globalNamed "turnstile/api.ErrThere" = some 8 := by kernel_rfl
theorem Tryd.gtThere : (Tryd.prog.globals[8]?).map (·.type) = some 35 := by kernel_rfl
theorem Tryd.gImage : Tryd.prog.globalNamed "turnstile/api.ErrImage" = some 9 := by kernel_rfl
theorem Tryd.gtImage : (Tryd.prog.globals[9]?).map (·.type) = some 35 := by kernel_rfl
theorem Tryd.gGap : Tryd.prog.globalNamed "turnstile/api.ErrGap" = some 10 := by kernel_rfl
theorem Tryd.gtGap : (Tryd.prog.globals[10]?).map (·.type) = some 35 := by kernel_rfl
theorem Tryd.gLog : Tryd.prog.globalNamed "turnstile/api.ErrLog" = some 11 := by kernel_rfl
theorem Tryd.gtLog : (Tryd.prog.globals[11]?).map (·.type) = some 35 := by kernel_rfl
theorem Tryd.gSick : Tryd.prog.globalNamed "turnstile/api.ErrSick" = some 12 := by kernel_rfl
theorem Tryd.gtSick : (Tryd.prog.globals[12]?).map (·.type) = some 35 := by kernel_rfl
theorem Tryd.gConfig : Tryd.prog.globalNamed "turnstile/api.ErrConfig" = some 13 := by kernel_rfl
theorem Tryd.gtConfig : (Tryd.prog.globals[13]?).map (·.type) = some 35 := by kernel_rfl

theorem errs_all {l : List (String × DataW Unit)} {W : World} (h : laidMetH Tryd.prog l W) (hp : (l.all fun x => x.2.handleName?.isNone) = true)
    (hArg : (l.filter fun x => x.1 == "turnstile/api.ErrArg") = [("turnstile/api.ErrArg", .iface "*errors.errorString" (.ptr (.agg [.lit (.string (errTxt 0))])))])
    (hShort : (l.filter fun x => x.1 == "turnstile/api.ErrShort") = [("turnstile/api.ErrShort", .iface "*errors.errorString" (.ptr (.agg [.lit (.string (errTxt 1))])))])
    (hForm : (l.filter fun x => x.1 == "turnstile/api.ErrForm") = [("turnstile/api.ErrForm", .iface "*errors.errorString" (.ptr (.agg [.lit (.string (errTxt 2))])))])
    (hLong : (l.filter fun x => x.1 == "turnstile/api.ErrLong") = [("turnstile/api.ErrLong", .iface "*errors.errorString" (.ptr (.agg [.lit (.string (errTxt 4))])))])
    (hSum : (l.filter fun x => x.1 == "turnstile/api.ErrSum") = [("turnstile/api.ErrSum", .iface "*errors.errorString" (.ptr (.agg [.lit (.string (errTxt 3))])))])
    (hIo : (l.filter fun x => x.1 == "turnstile/api.ErrIo") = [("turnstile/api.ErrIo", .iface "*errors.errorString" (.ptr (.agg [.lit (.string (errTxt 5))])))])
    (hDown : (l.filter fun x => x.1 == "turnstile/api.ErrDown") = [("turnstile/api.ErrDown", .iface "*errors.errorString" (.ptr (.agg [.lit (.string (errTxt 6))])))])
    (hGone : (l.filter fun x => x.1 == "turnstile/api.ErrGone") = [("turnstile/api.ErrGone", .iface "*errors.errorString" (.ptr (.agg [.lit (.string (errTxt 7))])))])
    (hThere : (l.filter fun x => x.1 == "turnstile/api.ErrThere") = [("turnstile/api.ErrThere", .iface "*errors.errorString" (.ptr (.agg [.lit (.string (errTxt 8))])))])
    (hImage : (l.filter fun x => x.1 == "turnstile/api.ErrImage") = [("turnstile/api.ErrImage", .iface "*errors.errorString" (.ptr (.agg [.lit (.string (errTxt 9))])))])
    (hGap : (l.filter fun x => x.1 == "turnstile/api.ErrGap") = [("turnstile/api.ErrGap", .iface "*errors.errorString" (.ptr (.agg [.lit (.string (errTxt 10))])))])
    (hLog : (l.filter fun x => x.1 == "turnstile/api.ErrLog") = [("turnstile/api.ErrLog", .iface "*errors.errorString" (.ptr (.agg [.lit (.string (errTxt 11))])))])
    (hSick : (l.filter fun x => x.1 == "turnstile/api.ErrSick") = [("turnstile/api.ErrSick", .iface "*errors.errorString" (.ptr (.agg [.lit (.string (errTxt 12))])))])
    (hConfig : (l.filter fun x => x.1 == "turnstile/api.ErrConfig") = [("turnstile/api.ErrConfig", .iface "*errors.errorString" (.ptr (.agg [.lit (.string (errTxt 13))])))])
    (hNil : (l.filter fun x => x.1 == "turnstile/api.ErrNil") = [("turnstile/api.ErrNil", .iface "*errors.errorString" (.ptr (.agg [.lit (.string (errTxt 14))])))])
    : ∃ ad, ErrSet allErrs errTxt W ad := by
  obtain ⟨aArg, kArg⟩ := gl_of_laid h hArg hp Tryd.gArg Tryd.gtArg
  obtain ⟨aShort, kShort⟩ := gl_of_laid h hShort hp Tryd.gShort Tryd.gtShort
  obtain ⟨aForm, kForm⟩ := gl_of_laid h hForm hp Tryd.gForm Tryd.gtForm
  obtain ⟨aLong, kLong⟩ := gl_of_laid h hLong hp Tryd.gLong Tryd.gtLong
  obtain ⟨aSum, kSum⟩ := gl_of_laid h hSum hp Tryd.gSum Tryd.gtSum
  obtain ⟨aIo, kIo⟩ := gl_of_laid h hIo hp Tryd.gIo Tryd.gtIo
  obtain ⟨aDown, kDown⟩ := gl_of_laid h hDown hp Tryd.gDown Tryd.gtDown
  obtain ⟨aGone, kGone⟩ := gl_of_laid h hGone hp Tryd.gGone Tryd.gtGone
  obtain ⟨aThere, kThere⟩ := gl_of_laid h hThere hp Tryd.gThere Tryd.gtThere
  obtain ⟨aImage, kImage⟩ := gl_of_laid h hImage hp Tryd.gImage Tryd.gtImage
  obtain ⟨aGap, kGap⟩ := gl_of_laid h hGap hp Tryd.gGap Tryd.gtGap
  obtain ⟨aLog, kLog⟩ := gl_of_laid h hLog hp Tryd.gLog Tryd.gtLog
  obtain ⟨aSick, kSick⟩ := gl_of_laid h hSick hp Tryd.gSick Tryd.gtSick
  obtain ⟨aConfig, kConfig⟩ := gl_of_laid h hConfig hp Tryd.gConfig Tryd.gtConfig
  obtain ⟨aNil, kNil⟩ := gl_of_laid h hNil hp Tryd.gNil Tryd.gtNil
  refine ⟨fun g =>
    if g = 0 then aArg else
    if g = 1 then aShort else
    if g = 2 then aForm else
    if g = 4 then aLong else
    if g = 3 then aSum else
    if g = 5 then aIo else
    if g = 6 then aDown else
    if g = 7 then aGone else
    if g = 8 then aThere else
    if g = 9 then aImage else
    if g = 10 then aGap else
    if g = 11 then aLog else
    if g = 12 then aSick else
    if g = 13 then aConfig else
    aNil, fun g hg => ?_⟩
  simp only [allErrs, List.mem_cons, List.not_mem_nil, or_false] at hg
  rcases hg with rfl | rfl | rfl | rfl | rfl | rfl | rfl | rfl | rfl | rfl | rfl | rfl | rfl | rfl | rfl
  · exact kArg
  · exact kShort
  · exact kForm
  · exact kLong
  · exact kSum
  · exact kIo
  · exact kDown
  · exact kGone
  · exact kThere
  · exact kImage
  · exact kGap
  · exact kLog
  · exact kSick
  · exact kConfig
  · exact kNil
end Go.Proofs.YtooclofdljampaaDoor
