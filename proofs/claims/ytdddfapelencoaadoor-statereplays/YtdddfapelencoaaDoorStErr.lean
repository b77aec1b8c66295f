/- state: the package's errors: where they lie, held against each other, what the reference's numbers say of them (as wip/pack has it, without the codec). Own work. -/
import Derived.Test.YtdddfapelencoaaDoorLib
import Derived.Test.YtdddfapelencoaaDoorRows
import Derived.LaidLaws
import Derived.LaidSub
import Derived.Stop.LaidErr
import Derived.MakeChecks
import Derived.ProofKit
import Derived.LaidEql
set_option linter.unusedVariables false
namespace Go.Proofs.YtdddfapelencoaaDoor
open Go Go.RowKit Go.ChangeShapes Go.WideShapes

/-- An error of errors.New's make, at its address. -/
abbrev E (a : Addr) : Value := .iface 118 (.pointer (some a))

/-- The package variable g holds the error at a. -/
def Gl (w : World) (g : Nat) (a : Addr) : Prop := ∃ t, w.heap[g]? = some (.cells #[E a] t (0, 0))

theorem Gl.cell {w : World} {g : Nat} {a : Addr} (h : Gl w g a) : w.cell? ⟨g, 0, none⟩ = some (E a) := by
  obtain ⟨t, h⟩ := h
  rw [cell_of_row w g 0 _ t _ h]; rfl
theorem Gl.lt {w : World} {g : Nat} {a : Addr} (h : Gl w g a) : g < w.heap.size := by
  obtain ⟨t, h⟩ := h
  exact (Array.getElem?_eq_some_iff.1 h).1
theorem Gl.up {w w' : World} {g : Nat} {a : Addr} (h : Gl w g a) (hu : Up w w') : Gl w' g a := by
  have hl := h.lt
  obtain ⟨t, h⟩ := h
  exact ⟨t, by rw [hu.block g hl]; exact h⟩

theorem Tryd.nameErr : Tryd.prog.typeName? 3 118 = some "*errors.errorString" := by kernel_rfl
theorem Tryd.cellsErr : Tryd.prog.cellsOf 135 = 1 := by kernel_rfl
theorem Tryd.cellsStr : Tryd.prog.cellsOf 9 = 1 := by kernel_rfl
theorem Tryd.star : "*" ++ "errors.errorString" = "*errors.errorString" := by decide
theorem Tryd.rowErr (u : TypeId) (h : Tryd.prog.typeName? 3 u = some "*errors.errorString") : u = 118 :=
  typeName_ptr_named (nm := "errors.errorString") (by rw [Tryd.star]; kernel_rfl) (by kernel_rfl) (by decide) u (by rw [Tryd.star]; exact h)

/-- The error at a reads as this text, in a block of cells. -/
structure ErrAt (w : World) (a : Addr) (text : List UInt8) : Prop where
  cell : ∃ s : ByteArray, w.cell? a = some (.string s) ∧ s.data.toList = text
  block : ∃ c t, w.heap[a.block]? = some (.cells c t (0, 0))

set_option maxRecDepth 20000 in
theorem gl_of_laid {n : String} {g : Nat} {text : List UInt8} {l : List (String × DataW Unit)} {W : World} (h : laidMetH Tryd.prog l W)
    (hl : (l.filter fun x => x.1 == n) = [(n, .iface "*errors.errorString" (.ptr (.agg [.lit (.string text)])))]) (hp : (l.all fun x => x.2.handleName?.isNone) = true)
    (hg : Tryd.prog.globalNamed n = some g) (ht : (Tryd.prog.globals[g]?).map (·.type) = some 46) : ∃ a, Gl W g a ∧ ErrAt W a text := by
  have h1 := h.filter (fun x => x.1 == n)
  rw [hl, MakeChecks.laidMetH_plain _ _ _ (by rfl)] at h1
  obtain ⟨ps, ⟨g0, t0, cs0, f0, p0, q0, hg0, ht0, hv0, hd0, hq0, e0⟩, hnd, hrows⟩ := h1
  obtain rfl := Option.some.inj (hg.symm.trans hg0)
  obtain rfl := Option.some.inj (ht.symm.trans ht0)
  have hq0' : q0 = [] := hq0
  subst hq0' e0
  obtain ⟨l0⟩ := cs0
  have ok0 : ∀ u v, l0 = [.iface u v] → Value.okWide Tryd.prog W .any 0 u v := fun u v e => by
    subst e
    exact (hrows g 0 (by simp [MemPlace.row])).2 u v (by simpa using World.var?_cell hg0 hv0 0)
  obtain ⟨a0, s0, rfl, hc0, hs0, hz0, rfl⟩ := errorString_of_trod Tryd.underlying46 Tryd.rowErr Tryd.underlying118 Tryd.underlying135 rfl rfl Tryd.underlying9 Tryd.cellsErr Tryd.cellsStr hd0 ok0
  obtain ⟨c0, t0, hb0⟩ := (hrows a0.block a0.off (by simp [MemPlace.row])).1
  obtain ⟨c1, t1, hb1⟩ := (hrows g 0 (by simp [MemPlace.row])).1
  refine ⟨a0, ⟨t1, ?_⟩, ⟨⟨s0, hc0, hs0⟩, c0, t0, hb0⟩⟩
  simp only [World.var?, hg, Option.bind_some, hb1] at hv0
  rw [hb1]
  simpa using hv0

theorem own : ownKnob Tryd.prog.godebug = none := by kernel_rfl
theorem Tryd.gShort : Tryd.prog.globalNamed "turnstile/api.ErrShort" = some 4 := by kernel_rfl
theorem Tryd.gForm : Tryd.prog.globalNamed "turnstile/api.ErrForm" = some 5 := by kernel_rfl
theorem Tryd.gNil : Tryd.prog.globalNamed "turnstile/api.ErrNil" = some 15 := by kernel_rfl
theorem Tryd.gtShort : (Tryd.prog.globals[4]?).map (·.type) = some 46 := by kernel_rfl
theorem Tryd.gtForm : (Tryd.prog.globals[5]?).map (·.type) = some 46 := by kernel_rfl
theorem Tryd.gtNil : (Tryd.prog.globals[15]?).map (·.type) = some 46 := by kernel_rfl
theorem Tryd.cmpErr : (Tryd.prog.info? 118).map (·.comparable) = some true := by kernel_rfl
theorem Tryd.sizeErr : (Tryd.prog.info? 135).map (·.size) = some 1 := by kernel_rfl

theorem eq_same (a : Addr) (u : World) : (binOp .eql 46 (E a) (E a)).run Tryd.prog u = .ok (.bool true) u := by
  obtain ⟨i, hi, hc⟩ := Option.map_eq_some_iff.1 Tryd.cmpErr
  obtain ⟨j, hj, hs⟩ := Option.map_eq_some_iff.1 Tryd.sizeErr
  exact run_eql_iface_ptr_same u a Tryd.underlying46 Tryd.underlying118 hi hc hj
theorem neq_same (a : Addr) (u : World) : (binOp .neq 46 (E a) (E a)).run Tryd.prog u = .ok (.bool false) u := by
  obtain ⟨i, hi, hc⟩ := Option.map_eq_some_iff.1 Tryd.cmpErr
  obtain ⟨j, hj, hs⟩ := Option.map_eq_some_iff.1 Tryd.sizeErr
  simp only [binOp]
  simp [Op.equal, Op.maxDepth, run_equalIn_iface_ptr_same u 9998 a Tryd.underlying46 Tryd.underlying118 hi hc hj]

theorem ErrAt.ne {w : World} {a b : Addr} {s t : List UInt8} (ha : ErrAt w a s) (hb : ErrAt w b t) (h : s ≠ t) : a ≠ b := by
  rintro rfl
  obtain ⟨x, hx, hx2⟩ := ha.cell
  obtain ⟨y, hy, hy2⟩ := hb.cell
  rw [hx] at hy
  simp at hy
  subst hy
  exact h (hx2.symm.trans hy2)

theorem eq_other {a b : Addr} {u : World} {s t : List UInt8} (ha : ErrAt u a s) (hb : ErrAt u b t) (h : s ≠ t) : (binOp .eql 46 (E a) (E b)).run Tryd.prog u = .ok (.bool false) u := by
  obtain ⟨i, hi, hc⟩ := Option.map_eq_some_iff.1 Tryd.cmpErr
  obtain ⟨j, hj, hs⟩ := Option.map_eq_some_iff.1 Tryd.sizeErr
  obtain ⟨c, t1, h1⟩ := ha.block
  obtain ⟨d, t2, h2⟩ := hb.block
  exact run_eql_iface_ptr_other u Tryd.underlying46 Tryd.underlying118 hi hc hj (by rw [hs]; decide) (ha.ne hb h) h1 h2
theorem neq_other {a b : Addr} {u : World} {s t : List UInt8} (ha : ErrAt u a s) (hb : ErrAt u b t) (h : s ≠ t) : (binOp .neq 46 (E a) (E b)).run Tryd.prog u = .ok (.bool true) u := by
  obtain ⟨i, hi, hc⟩ := Option.map_eq_some_iff.1 Tryd.cmpErr
  obtain ⟨j, hj, hs⟩ := Option.map_eq_some_iff.1 Tryd.sizeErr
  obtain ⟨c, t1, h1⟩ := ha.block
  obtain ⟨d, t2, h2⟩ := hb.block
  simp only [binOp]
  simp [Op.equal, Op.maxDepth, run_equalIn_iface_ptr_other u 9998 Tryd.underlying46 Tryd.underlying118 hi hc hj (by rw [hs]; decide) (ha.ne hb h) h1 h2]

theorem ErrAt.lt {w : World} {a : Addr} {s : List UInt8} (h : ErrAt w a s) : a.block < w.heap.size := by
  obtain ⟨c, t, h⟩ := h.block
  exact (Array.getElem?_eq_some_iff.1 h).1
theorem ErrAt.up {w w' : World} {a : Addr} {s : List UInt8} (h : ErrAt w a s) (hu : Up w w') : ErrAt w' a s := by
  have hl := h.lt
  obtain ⟨⟨x, hx, hx2⟩, c, t, hb⟩ := h
  exact ⟨⟨x, (hu.cell hl).trans hx, hx2⟩, c, t, (hu.block _ hl).trans hb⟩
/-- The package variables of the set S hold their errors at the addresses that ad tells. -/
def ErrSet (S : List Nat) (txt : Nat → List UInt8) (w : World) (ad : Nat → Addr) : Prop := ∀ g, g ∈ S → Gl w g (ad g) ∧ ErrAt w (ad g) (txt g)
theorem ErrSet.up {S : List Nat} {txt : Nat → List UInt8} {w w' : World} {ad : Nat → Addr} (h : ErrSet S txt w ad) (hu : Up w w') : ErrSet S txt w' ad := fun g hg => ⟨(h g hg).1.up hu, (h g hg).2.up hu⟩


/-- All errors of the package api, by their variables. -/
def allErrs : List Nat := [
  1,
  4,
  5,
  6,
  7,
  8,
  9,
  10,
  11,
  12,
  3,
  0,
  13,
  14,
  15]
/-- Their texts are unlike. -/
def Unlike (txt : Nat → List UInt8) : Prop := ∀ g, g ∈ allErrs → ∀ k, k ∈ allErrs → g ≠ k → txt g ≠ txt k

theorem ErrSet.other {txt : Nat → List UInt8} {w : World} {ad : Nat → Addr} (h : ErrSet allErrs txt w ad) (hu : Unlike txt) (g k : Nat) (hg : g ∈ allErrs) (hk : k ∈ allErrs) (hne : g ≠ k) :
    (binOp .eql 46 (E (ad g)) (E (ad k))).run Tryd.prog w = .ok (.bool false) w := eq_other (h g hg).2 (h k hk).2 (hu g hg k hk hne)

def txtOf : DataW Unit → List UInt8
  | .iface _ (.ptr (.agg [.lit (.string t)])) => t
  | _ => []
/-- The text of the error in the variable g. -/
def errTxt (g : Nat) : List UInt8 :=
  if g = 1 then txtOf Rows.laid_turnstile_api_ErrArg else
  if g = 4 then txtOf Rows.laid_turnstile_api_ErrShort else
  if g = 5 then txtOf Rows.laid_turnstile_api_ErrForm else
  if g = 6 then txtOf Rows.laid_turnstile_api_ErrLong else
  if g = 7 then txtOf Rows.laid_turnstile_api_ErrSum else
  if g = 8 then txtOf Rows.laid_turnstile_api_ErrIo else
  if g = 9 then txtOf Rows.laid_turnstile_api_ErrDown else
  if g = 10 then txtOf Rows.laid_turnstile_api_ErrGone else
  if g = 11 then txtOf Rows.laid_turnstile_api_ErrThere else
  if g = 12 then txtOf Rows.laid_turnstile_api_ErrImage else
  if g = 3 then txtOf Rows.laid_turnstile_api_ErrGap else
  if g = 0 then txtOf Rows.laid_turnstile_api_ErrLog else
  if g = 13 then txtOf Rows.laid_turnstile_api_ErrSick else
  if g = 14 then txtOf Rows.laid_turnstile_api_ErrConfig else
  txtOf Rows.laid_turnstile_api_ErrNil
theorem errTxt_unlike : Unlike errTxt := by
  unfold Unlike
  decide +kernel
theorem Tryd.gArg : Tryd.prog.globalNamed "turnstile/api.ErrArg" = some 1 := by kernel_rfl
theorem Tryd.gtArg : (Tryd.prog.globals[1]?).map (·.type) = some 46 := by kernel_rfl
theorem Tryd.gLong : Tryd.prog.globalNamed "turnstile/api.ErrLong" = some 6 := by kernel_rfl
theorem Tryd.gtLong : (Tryd.prog.globals[6]?).map (·.type) = some 46 := by kernel_rfl
theorem Tryd.gSum : Tryd.prog.globalNamed "turnstile/api.ErrSum" = some 7 := by kernel_rfl
theorem Tryd.gtSum : (Tryd.prog.globals[7]?).map (·.type) = some 46 := by kernel_rfl
theorem Tryd.gIo : Tryd.prog.globalNamed "turnstile/api.ErrIo" = some 8 := by kernel_rfl
theorem Tryd.gtIo : (Tryd.prog.globals[8]?).map (·.type) = some 46 := by kernel_rfl
theorem Tryd.gDown : Tryd.prog.globalNamed "turnstile/api.ErrDown" = some 9 := by kernel_rfl
theorem Tryd.gtDown : (Tryd.prog.globals[9]?).map (·.type) = some 46 := by kernel_rfl
theorem Tryd.gGone : Tryd.prog.globalNamed "turnstile/api.ErrGone" = some 10 := by kernel_rfl
theorem Tryd.gtGone : (Tryd.prog.globals[10]?).map (·.type) = some 46 := by kernel_rfl
theorem Tryd.gThere : Tryd.prog.globalNamed "turnstile/api.ErrThere" = some 11 := by kernel_rfl
theorem Tryd.gtThere : (Tryd.prog.globals[11]?).map (·.type) = some 46 := by kernel_rfl
theorem Tryd.gImage : Tryd.prog.globalNamed "turnstile/api.ErrImage" = some 12 := by kernel_rfl
theorem Tryd.gtImage : (Tryd.prog.globals[12]?).map (·.type) = some 46 := by kernel_rfl
theorem Tryd.gGap : Tryd.prog.globalNamed "turnstile/api.ErrGap" = some 3 := by kernel_rfl
theorem Tryd.gtGap : (Tryd.prog.globals[3]?).map (·.type) = some 46 := by kernel_rfl
theorem Tryd.gLog : Tryd.prog.globalNamed "turnstile/api.ErrLog" = some 0 := by kernel_rfl
theorem Tryd.gtLog : (Tryd.prog.globals[0]?).map (·.type) = some 46 := by kernel_rfl
theorem Tryd.gSick : Tryd.prog.globalNamed "turnstile/api.ErrSick" = some 13 := by kernel_rfl
theorem Tryd.gtSick : (Tryd.prog.globals[13]?).map (·.type) = some 46 := by kernel_rfl
theorem Tryd.gConfig : Tryd.prog.globalNamed "turnstile/api.ErrConfig" = some 14 := by kernel_rfl
theorem Tryd.gtConfig : (Tryd.prog.globals[14]?).map (·.type) = some 46 := by kernel_rfl

theorem errs_all {l : List (String × DataW Unit)} {W : World} (h : laidMetH Tryd.prog l W) (hp : (l.all fun x => x.2.handleName?.isNone) = true)
    (hArg : (l.filter fun x => x.1 == "turnstile/api.ErrArg") = [("turnstile/api.ErrArg", .iface "*errors.errorString" (.ptr (.agg [.lit (.string (errTxt 1))])))])
    (hShort : (l.filter fun x => x.1 == "turnstile/api.ErrShort") = [("turnstile/api.ErrShort", .iface "*errors.errorString" (.ptr (.agg [.lit (.string (errTxt 4))])))])
    (hForm : (l.filter fun x => x.1 == "turnstile/api.ErrForm") = [("turnstile/api.ErrForm", .iface "*errors.errorString" (.ptr (.agg [.lit (.string (errTxt 5))])))])
    (hLong : (l.filter fun x => x.1 == "turnstile/api.ErrLong") = [("turnstile/api.ErrLong", .iface "*errors.errorString" (.ptr (.agg [.lit (.string (errTxt 6))])))])
    (hSum : (l.filter fun x => x.1 == "turnstile/api.ErrSum") = [("turnstile/api.ErrSum", .iface "*errors.errorString" (.ptr (.agg [.lit (.string (errTxt 7))])))])
    (hIo : (l.filter fun x => x.1 == "turnstile/api.ErrIo") = [("turnstile/api.ErrIo", .iface "*errors.errorString" (.ptr (.agg [.lit (.string (errTxt 8))])))])
    (hDown : (l.filter fun x => x.1 == "turnstile/api.ErrDown") = [("turnstile/api.ErrDown", .iface "*errors.errorString" (.ptr (.agg [.lit (.string (errTxt 9))])))])
    (hGone : (l.filter fun x => x.1 == "turnstile/api.ErrGone") = [("turnstile/api.ErrGone", .iface "*errors.errorString" (.ptr (.agg [.lit (.string (errTxt 10))])))])
    (hThere : (l.filter fun x => x.1 == "turnstile/api.ErrThere") = [("turnstile/api.ErrThere", .iface "*errors.errorString" (.ptr (.agg [.lit (.string (errTxt 11))])))])
    (hImage : (l.filter fun x => x.1 == "turnstile/api.ErrImage") = [("turnstile/api.ErrImage", .iface "*errors.errorString" (.ptr (.agg [.lit (.string (errTxt 12))])))])
    (hGap : (l.filter fun x => x.1 == "turnstile/api.ErrGap") = [("turnstile/api.ErrGap", .iface "*errors.errorString" (.ptr (.agg [.lit (.string (errTxt 3))])))])
    (hLog : (l.filter fun x => x.1 == "turnstile/api.ErrLog") = [("turnstile/api.ErrLog", .iface "*errors.errorString" (.ptr (.agg [.lit (.string (errTxt 0))])))])
    (hSick : (l.filter fun x => x.1 == "turnstile/api.ErrSick") = [("turnstile/api.ErrSick", .iface "*errors.errorString" (.ptr (.agg [.lit (.string (errTxt 13))])))])
    (hConfig : (l.filter fun x => x.1 == "turnstile/api.ErrConfig") = [("turnstile/api.ErrConfig", .iface "*errors.errorString" (.ptr (.agg [.lit (.string (errTxt 14))])))])
    (hNil : (l.filter fun x => x.1 == "turnstile/api.ErrNil") = [("turnstile/api.ErrNil", .iface "*errors.errorString" (.ptr (.agg [.lit (.string (errTxt 15))])))])
    : ∃ ad, ErrSet allErrs errTxt W ad := by
  obtain ⟨aArg, kArg⟩ := gl_of_laid h hArg hp Tryd.gArg Tryd.gtArg
  obtain ⟨aShort, kShort⟩ := gl_of_laid h hShort hp Tryd.gShort Tryd.gtShort
  obtain ⟨aForm, kForm⟩ := gl_of_laid h hForm hp Tryd.gForm Tryd.gtForm
  obtain ⟨aLong, kLong⟩ := gl_of_laid h hLong hp Tryd.gLong Tryd.gtLong
  obtain ⟨aSum, kSum⟩ := gl_of_laid h hSum hp Tryd.gSum Tryd.gtSum
  obtain ⟨aIo, kIo⟩ := gl_of_laid h hIo hp Tryd.gIo Tryd.gtIo
  obtain ⟨aDown, kDown⟩ := gl_of_laid h hDown hp Tryd.gDown Tryd.gtDown
  obtain ⟨aGone, kGone⟩ := gl_of_laid h hGone hp Tryd.gGone Tryd.gtGone
  obtain ⟨aThere, kThere⟩ := gl_of_laid h hThere hp Tryd.gThere Tryd.gtThere
  obtain ⟨aImage, kImage⟩ := gl_of_laid h hImage hp Tryd.gImage Tryd.gtImage
  obtain ⟨aGap, kGap⟩ := gl_of_laid h hGap hp Tryd.gGap Tryd.gtGap
  obtain ⟨aLog, kLog⟩ := gl_of_laid h hLog hp Tryd.gLog Tryd.gtLog
  obtain ⟨aSick, kSick⟩ := gl_of_laid h hSick hp Tryd.gSick Tryd.gtSick
  obtain ⟨aConfig, kConfig⟩ := gl_of_laid h hConfig hp Tryd.gConfig Tryd.gtConfig
  obtain ⟨aNil, kNil⟩ := gl_of_laid h hNil hp Tryd.gNil Tryd.gtNil
  refine ⟨fun g =>
    if g = 1 then aArg else
    if g = 4 then aShort else
    if g = 5 then aForm else
    if g = 6 then aLong else
    if g = 7 then aSum else
    if g = 8 then aIo else
    if g = 9 then aDown else
    if g = 10 then aGone else
    if g = 11 then aThere else
    if g = 12 then aImage else
    if g = 3 then aGap else
    if g = 0 then aLog else
    if g = 13 then aSick else
    if g = 14 then aConfig else
    aNil, fun g hg => ?_⟩
  simp only [allErrs, List.mem_cons, List.not_mem_nil, or_false] at hg
  rcases hg with rfl | rfl | rfl | rfl | rfl | rfl | rfl | rfl | rfl | rfl | rfl | rfl | rfl | rfl | rfl
  · exact kArg
  · exact kShort
  · exact kForm
  · exact kLong
  · exact kSum
  · exact kIo
  · exact kDown
  · exact kGone
  · exact kThere
  · exact kImage
  · exact kGap
  · exact kLog
  · exact kSick
  · exact kConfig
  · exact kNil

/-- The errors that the layer answers. -/
abbrev stErrs : List Nat := [1, 3, 0]
theorem st_sub : ∀ g ∈ stErrs, g ∈ allErrs := by decide
theorem ErrSet.few {w : World} {ad : Nat → Addr} (h : ErrSet allErrs errTxt w ad) : ErrSet stErrs errTxt w ad := fun g hg => h g (st_sub g hg)
theorem Of_none (w : World) : Calls Tryd.prog 42 #[.nilIface] w fun e w' => e = .returned (.int .i64 0) ∧ w' = w := by
  go_enter Tryd.func42, Tryd.ntmps42
  go_wp2
  go_ret
  exact ⟨rfl, rfl⟩
set_option maxHeartbeats 1600000 in
theorem Of_Arg (txt : Nat → List UInt8) (w : World) (ad : Nat → Addr) (h : ErrSet allErrs txt w ad) (hu : Unlike txt) :
    Calls Tryd.prog 42 #[E (ad 1)] w fun e w' => e = .returned (.int .i64 1) ∧ w' = w := by
  have cArg := (h 1 (by decide)).1.cell
  have sArg := eq_same (ad 1)
  clear h hu
  generalize ad 1 = aArg at *
  go_enter Tryd.func42, Tryd.ntmps42
  go_wp2
  go_ret
  exact ⟨rfl, rfl⟩
set_option maxHeartbeats 1600000 in
theorem Of_Gap (txt : Nat → List UInt8) (w : World) (ad : Nat → Addr) (h : ErrSet allErrs txt w ad) (hu : Unlike txt) :
    Calls Tryd.prog 42 #[E (ad 3)] w fun e w' => e = .returned (.int .i64 11) ∧ w' = w := by
  have cArg := (h 1 (by decide)).1.cell
  have cShort := (h 4 (by decide)).1.cell
  have cForm := (h 5 (by decide)).1.cell
  have cLong := (h 6 (by decide)).1.cell
  have cSum := (h 7 (by decide)).1.cell
  have cIo := (h 8 (by decide)).1.cell
  have cDown := (h 9 (by decide)).1.cell
  have cGone := (h 10 (by decide)).1.cell
  have cThere := (h 11 (by decide)).1.cell
  have cImage := (h 12 (by decide)).1.cell
  have cGap := (h 3 (by decide)).1.cell
  have nArg := h.other hu 3 1 (by decide) (by decide) (by decide)
  have nShort := h.other hu 3 4 (by decide) (by decide) (by decide)
  have nForm := h.other hu 3 5 (by decide) (by decide) (by decide)
  have nLong := h.other hu 3 6 (by decide) (by decide) (by decide)
  have nSum := h.other hu 3 7 (by decide) (by decide) (by decide)
  have nIo := h.other hu 3 8 (by decide) (by decide) (by decide)
  have nDown := h.other hu 3 9 (by decide) (by decide) (by decide)
  have nGone := h.other hu 3 10 (by decide) (by decide) (by decide)
  have nThere := h.other hu 3 11 (by decide) (by decide) (by decide)
  have nImage := h.other hu 3 12 (by decide) (by decide) (by decide)
  have sGap := eq_same (ad 3)
  clear h hu
  generalize ad 1 = aArg at *
  generalize ad 4 = aShort at *
  generalize ad 5 = aForm at *
  generalize ad 6 = aLong at *
  generalize ad 7 = aSum at *
  generalize ad 8 = aIo at *
  generalize ad 9 = aDown at *
  generalize ad 10 = aGone at *
  generalize ad 11 = aThere at *
  generalize ad 12 = aImage at *
  generalize ad 3 = aGap at *
  go_enter Tryd.func42, Tryd.ntmps42
  go_wp2
  go_ret
  exact ⟨rfl, rfl⟩
set_option maxHeartbeats 1600000 in
theorem Of_Log (txt : Nat → List UInt8) (w : World) (ad : Nat → Addr) (h : ErrSet allErrs txt w ad) (hu : Unlike txt) :
    Calls Tryd.prog 42 #[E (ad 0)] w fun e w' => e = .returned (.int .i64 12) ∧ w' = w := by
  have cArg := (h 1 (by decide)).1.cell
  have cShort := (h 4 (by decide)).1.cell
  have cForm := (h 5 (by decide)).1.cell
  have cLong := (h 6 (by decide)).1.cell
  have cSum := (h 7 (by decide)).1.cell
  have cIo := (h 8 (by decide)).1.cell
  have cDown := (h 9 (by decide)).1.cell
  have cGone := (h 10 (by decide)).1.cell
  have cThere := (h 11 (by decide)).1.cell
  have cImage := (h 12 (by decide)).1.cell
  have cGap := (h 3 (by decide)).1.cell
  have cLog := (h 0 (by decide)).1.cell
  have nArg := h.other hu 0 1 (by decide) (by decide) (by decide)
  have nShort := h.other hu 0 4 (by decide) (by decide) (by decide)
  have nForm := h.other hu 0 5 (by decide) (by decide) (by decide)
  have nLong := h.other hu 0 6 (by decide) (by decide) (by decide)
  have nSum := h.other hu 0 7 (by decide) (by decide) (by decide)
  have nIo := h.other hu 0 8 (by decide) (by decide) (by decide)
  have nDown := h.other hu 0 9 (by decide) (by decide) (by decide)
  have nGone := h.other hu 0 10 (by decide) (by decide) (by decide)
  have nThere := h.other hu 0 11 (by decide) (by decide) (by decide)
  have nImage := h.other hu 0 12 (by decide) (by decide) (by decide)
  have nGap := h.other hu 0 3 (by decide) (by decide) (by decide)
  have sLog := eq_same (ad 0)
  clear h hu
  generalize ad 1 = aArg at *
  generalize ad 4 = aShort at *
  generalize ad 5 = aForm at *
  generalize ad 6 = aLong at *
  generalize ad 7 = aSum at *
  generalize ad 8 = aIo at *
  generalize ad 9 = aDown at *
  generalize ad 10 = aGone at *
  generalize ad 11 = aThere at *
  generalize ad 12 = aImage at *
  generalize ad 3 = aGap at *
  generalize ad 0 = aLog at *
  go_enter Tryd.func42, Tryd.ntmps42
  go_wp2
  go_ret
  exact ⟨rfl, rfl⟩
end Go.Proofs.YtdddfapelencoaaDoor
