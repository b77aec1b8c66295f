/- Merged: Same, Args, ErrTab. -/
import Derived.Test.YtfhcnciimnhnlaaGreatDoorMg19
import Derived.Test.YtfhcnciimnhnlaaGreatDoorMg22
import Derived.Test.YtfhcnciimnhnlaaGreatDoorMg18
import Derived.OpenShut
import Derived.SizedLaws
set_option linter.unusedVariables false
namespace Go.Proofs.YtfhcnciimnhnlaaGreatDoor
open Go Go.RowKit

/-- All errors of the package api, by their variables. -/
def allErrs : List Nat := [2, 9, 10, 3, 11, 0, 1, 8, 7, 5, 12, 13, 4, 14, 6]
/-- Their texts are unlike. -/
def Unlike (txt : Nat → List UInt8) : Prop := ∀ g, g ∈ allErrs → ∀ k, k ∈ allErrs → g ≠ k → txt g ≠ txt k

theorem ErrSet.other {txt : Nat → List UInt8} {w : World} {ad : Nat → Addr} (h : ErrSet allErrs txt w ad) (hu : Unlike txt) (g k : Nat) (hg : g ∈ allErrs) (hk : k ∈ allErrs) (hne : g ≠ k) :
    (binOp .eql 64 (E (ad g)) (E (ad k))).run Tryz.prog w = .ok (.bool false) w := eq_other (h g hg).2 (h k hk).2 (hu g hg k hk hne)

theorem Of_none (w : World) : Calls Tryz.prog 111 #[.nilIface] w fun e w' => e = .returned (.int .i64 0) ∧ w' = w := by
  go_enter Tryz.func111, Tryz.ntmps111
  go_wp2
  go_ret
  exact ⟨rfl, rfl⟩

set_option maxHeartbeats 800000 in
theorem Of_Short (txt : Nat → List UInt8) (w : World) (ad : Nat → Addr) (h : ErrSet allErrs txt w ad) (hu : Unlike txt) :
    Calls Tryz.prog 111 #[E (ad 9)] w fun e w' => e = .returned (.int .i64 2) ∧ w' = w := by
  have cArg := (h 2 (by decide)).1.cell
  have cShort := (h 9 (by decide)).1.cell
  have nArg := h.other hu 9 2 (by decide) (by decide) (by decide)
  have sShort := eq_same (ad 9)
  clear h hu
  generalize ad 2 = aArg at *
  generalize ad 9 = aShort at *
  go_enter Tryz.func111, Tryz.ntmps111
  go_wp2
  go_ret
  exact ⟨rfl, rfl⟩

set_option maxHeartbeats 800000 in
theorem Of_Form (txt : Nat → List UInt8) (w : World) (ad : Nat → Addr) (h : ErrSet allErrs txt w ad) (hu : Unlike txt) :
    Calls Tryz.prog 111 #[E (ad 10)] w fun e w' => e = .returned (.int .i64 3) ∧ w' = w := by
  have cArg := (h 2 (by decide)).1.cell
  have cShort := (h 9 (by decide)).1.cell
  have cForm := (h 10 (by decide)).1.cell
  have nArg := h.other hu 10 2 (by decide) (by decide) (by decide)
  have nShort := h.other hu 10 9 (by decide) (by decide) (by decide)
  have sForm := eq_same (ad 10)
  clear h hu
  generalize ad 2 = aArg at *
  generalize ad 9 = aShort at *
  generalize ad 10 = aForm at *
  go_enter Tryz.func111, Tryz.ntmps111
  go_wp2
  go_ret
  exact ⟨rfl, rfl⟩

set_option maxHeartbeats 800000 in
theorem Of_Long (txt : Nat → List UInt8) (w : World) (ad : Nat → Addr) (h : ErrSet allErrs txt w ad) (hu : Unlike txt) :
    Calls Tryz.prog 111 #[E (ad 3)] w fun e w' => e = .returned (.int .i64 4) ∧ w' = w := by
  have cArg := (h 2 (by decide)).1.cell
  have cShort := (h 9 (by decide)).1.cell
  have cForm := (h 10 (by decide)).1.cell
  have cLong := (h 3 (by decide)).1.cell
  have nArg := h.other hu 3 2 (by decide) (by decide) (by decide)
  have nShort := h.other hu 3 9 (by decide) (by decide) (by decide)
  have nForm := h.other hu 3 10 (by decide) (by decide) (by decide)
  have sLong := eq_same (ad 3)
  clear h hu
  generalize ad 2 = aArg at *
  generalize ad 9 = aShort at *
  generalize ad 10 = aForm at *
  generalize ad 3 = aLong at *
  go_enter Tryz.func111, Tryz.ntmps111
  go_wp2
  go_ret
  exact ⟨rfl, rfl⟩

set_option maxHeartbeats 800000 in
theorem Of_Nil (txt : Nat → List UInt8) (w : World) (ad : Nat → Addr) (h : ErrSet allErrs txt w ad) (hu : Unlike txt) :
    Calls Tryz.prog 111 #[E (ad 6)] w fun e w' => e = .returned (.int .i64 15) ∧ w' = w := by
  have cArg := (h 2 (by decide)).1.cell
  have cShort := (h 9 (by decide)).1.cell
  have cForm := (h 10 (by decide)).1.cell
  have cLong := (h 3 (by decide)).1.cell
  have cSum := (h 11 (by decide)).1.cell
  have cIo := (h 0 (by decide)).1.cell
  have cDown := (h 1 (by decide)).1.cell
  have cGone := (h 8 (by decide)).1.cell
  have cThere := (h 7 (by decide)).1.cell
  have cImage := (h 5 (by decide)).1.cell
  have cGap := (h 12 (by decide)).1.cell
  have cLog := (h 13 (by decide)).1.cell
  have cSick := (h 4 (by decide)).1.cell
  have cConfig := (h 14 (by decide)).1.cell
  have cNil := (h 6 (by decide)).1.cell
  have nArg := h.other hu 6 2 (by decide) (by decide) (by decide)
  have nShort := h.other hu 6 9 (by decide) (by decide) (by decide)
  have nForm := h.other hu 6 10 (by decide) (by decide) (by decide)
  have nLong := h.other hu 6 3 (by decide) (by decide) (by decide)
  have nSum := h.other hu 6 11 (by decide) (by decide) (by decide)
  have nIo := h.other hu 6 0 (by decide) (by decide) (by decide)
  have nDown := h.other hu 6 1 (by decide) (by decide) (by decide)
  have nGone := h.other hu 6 8 (by decide) (by decide) (by decide)
  have nThere := h.other hu 6 7 (by decide) (by decide) (by decide)
  have nImage := h.other hu 6 5 (by decide) (by decide) (by decide)
  have nGap := h.other hu 6 12 (by decide) (by decide) (by decide)
  have nLog := h.other hu 6 13 (by decide) (by decide) (by decide)
  have nSick := h.other hu 6 4 (by decide) (by decide) (by decide)
  have nConfig := h.other hu 6 14 (by decide) (by decide) (by decide)
  have sNil := eq_same (ad 6)
  clear h hu
  generalize ad 2 = aArg at *
  generalize ad 9 = aShort at *
  generalize ad 10 = aForm at *
  generalize ad 3 = aLong at *
  generalize ad 11 = aSum at *
  generalize ad 0 = aIo at *
  generalize ad 1 = aDown at *
  generalize ad 8 = aGone at *
  generalize ad 7 = aThere at *
  generalize ad 5 = aImage at *
  generalize ad 12 = aGap at *
  generalize ad 13 = aLog at *
  generalize ad 4 = aSick at *
  generalize ad 14 = aConfig at *
  generalize ad 6 = aNil at *
  go_enter Tryz.func111, Tryz.ntmps111
  go_wp2
  go_ret
  exact ⟨rfl, rfl⟩

/-- turnstilesame.Is where Of answers k. -/
theorem Is_of (v : Value) (k d : Nat) (w : World) (h : Calls Tryz.prog 111 #[v] w fun e w' => e = .returned (.int .i64 (k : Int)) ∧ w' = w) :
    Calls Tryz.prog 52 #[v, .int .i64 (d : Int)] w fun e w' => e = .returned (.bool (decide (k = d))) ∧ w' = w := by
  have he : Hid (((k : Int) == (d : Int)) = decide (k = d)) := by
    show _ = _
    by_cases h : k = d
    · simp [h]
    · simp [h]; omega
  go_enter Tryz.func52, Tryz.ntmps52
  go_wp2_with fail
  refine h.mono ?_
  rintro e w1 ⟨rfl, rfl⟩
  clear h
  go_wp2
  go_ret
  exact ⟨congrArg (fun b => Ending.returned (.bool b)) he.out, rfl⟩
end Go.Proofs.YtfhcnciimnhnlaaGreatDoor

set_option linter.unusedVariables false
namespace Go.Proofs.YtfhcnciimnhnlaaGreatDoor
open Go Go.RowKit Go.ChangeShapes Go.WideShapes

theorem Tryz.cellsU8 : Tryz.prog.cellsOf 5 = 1 := by kernel_rfl
theorem Tryz.bytesU8 : Tryz.prog.bytesOf 5 = 1 := by kernel_rfl

theorem addr_plain {w : World} {a : Addr} {v : Value} (h : w.cell? a = some v) : a = ⟨a.block, a.off, none⟩ := by
  obtain ⟨b, o, s⟩ := a
  unfold World.cell? at h
  cases s with
  | none => rfl
  | some s =>
    split at h
    · simp at h
    · cases h

theorem open_bytes {H : Type} {enc : TypeId × Value → H} {W : World} {v : Value} {d : DataW H} {p : List MemPlace} (hv : ∃ a n c, v = .slice a n c)
    (h : DataW.Trod enc Tryz.prog W 0 (fun _ => true) true 43 v d p) :
    ∃ bs, Sl 0 W v bs ∧ ((d = .nil ∧ bs = []) ∨ ∃ elems spare, d = .slice elems spare ∧ elems.length = bs.length) := by
  obtain ⟨a0, n0, c0, rfl⟩ := hv
  obtain ⟨fuel, hf⟩ := h
  rcases open_ints Tryz.underlying43 Tryz.underlying5 Tryz.cellsU8 hf with ⟨hcs, hx⟩ | ⟨a, len', cap', zs, hcs, _, hl, hm, hz, hx, hcell, hwz⟩
  · simp [Value.cells] at hcs
    obtain ⟨rfl, rfl, rfl⟩ := hcs
    simp only [Prod.mk.injEq] at hx
    exact ⟨[], Sl.nil 0 W, .inl ⟨hx.1, rfl⟩⟩
  · simp [Value.cells] at hcs
    obtain ⟨rfl, rfl, rfl⟩ := hcs
    simp only [Prod.mk.injEq] at hx
    simp only [if_true] at hz
    have hlen : ((zs.take n0).map fun z => UInt8.ofNat z.toNat).length = n0 := by simp; omega
    refine ⟨(zs.take n0).map fun z => UInt8.ofNat z.toNat, ?_, .inr ⟨_, _, hx.1, by simp [lits]⟩⟩
    refine ⟨some a, c0, by rw [hlen], by rw [hlen]; exact hl, (by intro e; cases e), fun hne => ?_⟩
    have hn0 : 0 < n0 := by rw [← hlen]; exact List.length_pos_iff.2 hne
    have hc0 := hcell 0 (by omega)
    have ha : a = ⟨a.block, a.off, none⟩ := by
      have : a.add 0 = a := by simp [Addr.add]
      rw [this] at hc0
      exact addr_plain hc0
    refine ⟨a.block, a.off, congrArg some ha, Nat.zero_le _, ?_⟩
    intro i hi
    rw [hlen] at hi
    have hc := hcell i (by omega)
    rw [ha, Addr.add_lit] at hc
    rw [hc]
    have hzi : i < zs.length := by omega
    have hb := bounds_u8 (hwz (zs[i]) (List.getElem_mem hzi))
    have e1 : zs.getD i 0 = zs[i] := by simp [List.getD, hzi]
    simp only [B, List.getElem_map, List.getElem_take, e1]
    congr 2
    rw [UInt8.toNat_ofNat']
    omega

/-- The bound that the form itself lays on a slice of bytes. -/
theorem bytes_bound {H : Type} {ts : List TypeId} {ds : List (DataW H)} {j : Nat} {d : DataW H} {bs : List UInt8} (hsz : (DataW.weightsEach Tryz.prog ts ds).all (· ≤ reachBytes) = true) (ht : ts[j]? = some 43) (hd : ds[j]? = some d)
    (h : (d = .nil ∧ bs = []) ∨ ∃ elems spare, d = .slice elems spare ∧ elems.length = bs.length) : bs.length ≤ 140737488351232 := by
  rcases h with ⟨_, rfl⟩ | ⟨elems, spare, rfl, he⟩
  · simp
  · have := sized_slice hsz (j := j) (t := 43) (e := 5) ht hd Tryz.underlying43
    rw [Tryz.bytesU8] at this
    simp only [reachBytes] at this
    omega

theorem Tryz.readable : Tryz.prog.readableRec 43 = true := by kernel_rfl
theorem Tryz.laidOut : laidOutB Tryz.prog = true := by kernel_rfl
end Go.Proofs.YtfhcnciimnhnlaaGreatDoor

set_option linter.unusedVariables false
namespace Go.Proofs.YtfhcnciimnhnlaaGreatDoor
open Go Go.RowKit Go.ChangeShapes Go.WideShapes

def txtOf : DataW Unit → List UInt8
  | .iface _ (.ptr (.agg [.lit (.string t)])) => t
  | _ => []
/-- The text of the error in the variable g. -/
def errTxt (g : Nat) : List UInt8 :=
  if g = 2 then txtOf Rows.laid_turnstile_api_ErrArg else
  if g = 9 then txtOf Rows.laid_turnstile_api_ErrShort else
  if g = 10 then txtOf Rows.laid_turnstile_api_ErrForm else
  if g = 3 then txtOf Rows.laid_turnstile_api_ErrLong else
  if g = 11 then txtOf Rows.laid_turnstile_api_ErrSum else
  if g = 0 then txtOf Rows.laid_turnstile_api_ErrIo else
  if g = 1 then txtOf Rows.laid_turnstile_api_ErrDown else
  if g = 8 then txtOf Rows.laid_turnstile_api_ErrGone else
  if g = 7 then txtOf Rows.laid_turnstile_api_ErrThere else
  if g = 5 then txtOf Rows.laid_turnstile_api_ErrImage else
  if g = 12 then txtOf Rows.laid_turnstile_api_ErrGap else
  if g = 13 then txtOf Rows.laid_turnstile_api_ErrLog else
  if g = 4 then txtOf Rows.laid_turnstile_api_ErrSick else
  if g = 14 then txtOf Rows.laid_turnstile_api_ErrConfig else
  txtOf Rows.laid_turnstile_api_ErrNil
theorem errTxt_unlike : Unlike errTxt := by
  unfold Unlike
  decide +kernel
theorem Tryz.gArg : Tryz.prog.globalNamed "turnstile/api.ErrArg" = some 2 := by kernel_rfl
theorem Tryz.gtArg : (Tryz.prog.globals[2]?).map (·.type) = some 64 := by kernel_rfl
theorem Tryz.gLong : Tryz.prog.globalNamed "turnstile/api.ErrLong" = some 3 := by kernel_rfl
theorem Tryz.gtLong : (Tryz.prog.globals[3]?).map (·.type) = some 64 := by kernel_rfl
theorem Tryz.gSum : Tryz.prog.globalNamed "turnstile/api.ErrSum" = some 11 := by kernel_rfl
theorem Tryz.gtSum : (Tryz.prog.globals[11]?).map (·.type) = some 64 := by kernel_rfl
theorem Tryz.gIo : Tryz.prog.globalNamed "turnstile/api.ErrIo" = some 0 := by kernel_rfl
theorem Tryz.gtIo : (Tryz.prog.globals[0]?).map (·.type) = some 64 := by kernel_rfl
theorem Tryz.gDown : Tryz.prog.globalNamed "turnstile/api.ErrDown" = some 1 := by kernel_rfl
theorem Tryz.gtDown : (Tryz.prog.globals[1]?).map (·.type) = some 64 := by kernel_rfl
theorem Tryz.gGone : Tryz.prog.globalNamed "turnstile/api.ErrGone" = some 8 := by kernel_rfl
theorem Tryz.gtGone : (Tryz.prog.globals[8]?).map (·.type) = some 64 := by kernel_rfl
theorem Tryz.gThere : Tryz.prog.globalNamed "turnstile/api.ErrThere" = some 7 := by kernel_rfl
theorem Tryz.gtThere : (Tryz.prog.globals[7]?).map (·.type) = some 64 := by kernel_rfl
theorem Tryz.gImage : Tryz.prog.globalNamed "turnstile/api.ErrImage" = some 5 := by kernel_rfl
theorem Tryz.gtImage : (Tryz.prog.globals[5]?).map (·.type) = some 64 := by kernel_rfl
theorem Tryz.gGap : Tryz.prog.globalNamed "turnstile/api.ErrGap" = some 12 := by kernel_rfl
theorem Tryz.gtGap : (Tryz.prog.globals[12]?).map (·.type) = some 64 := by kernel_rfl
theorem Tryz.gLog : Tryz.prog.globalNamed "turnstile/api.ErrLog" = some 13 := by kernel_rfl
theorem Tryz.gtLog : (Tryz.prog.globals[13]?).map (·.type) = some 64 := by kernel_rfl
theorem Tryz.gSick : Tryz.prog.globalNamed "turnstile/api.ErrSick" = some 4 := by kernel_rfl
theorem Tryz.gtSick : (Tryz.prog.globals[4]?).map (·.type) = some 64 := by kernel_rfl
theorem Tryz.gConfig : Tryz.prog.globalNamed "turnstile/api.ErrConfig" = some 14 := by kernel_rfl
theorem Tryz.gtConfig : (Tryz.prog.globals[14]?).map (·.type) = some 64 := by kernel_rfl

theorem errs_all {l : List (String × DataW Unit)} {W : World} (h : laidMetH Tryz.prog l W) (hp : (l.all fun x => x.2.handleName?.isNone) = true)
    (hArg : (l.filter fun x => x.1 == "turnstile/api.ErrArg") = [("turnstile/api.ErrArg", .iface "*errors.errorString" (.ptr (.agg [.lit (.string (errTxt 2))])))])
    (hShort : (l.filter fun x => x.1 == "turnstile/api.ErrShort") = [("turnstile/api.ErrShort", .iface "*errors.errorString" (.ptr (.agg [.lit (.string (errTxt 9))])))])
    (hForm : (l.filter fun x => x.1 == "turnstile/api.ErrForm") = [("turnstile/api.ErrForm", .iface "*errors.errorString" (.ptr (.agg [.lit (.string (errTxt 10))])))])
    (hLong : (l.filter fun x => x.1 == "turnstile/api.ErrLong") = [("turnstile/api.ErrLong", .iface "*errors.errorString" (.ptr (.agg [.lit (.string (errTxt 3))])))])
    (hSum : (l.filter fun x => x.1 == "turnstile/api.ErrSum") = [("turnstile/api.ErrSum", .iface "*errors.errorString" (.ptr (.agg [.lit (.string (errTxt 11))])))])
    (hIo : (l.filter fun x => x.1 == "turnstile/api.ErrIo") = [("turnstile/api.ErrIo", .iface "*errors.errorString" (.ptr (.agg [.lit (.string (errTxt 0))])))])
    (hDown : (l.filter fun x => x.1 == "turnstile/api.ErrDown") = [("turnstile/api.ErrDown", .iface "*errors.errorString" (.ptr (.agg [.lit (.string (errTxt 1))])))])
    (hGone : (l.filter fun x => x.1 == "turnstile/api.ErrGone") = [("turnstile/api.ErrGone", .iface "*errors.errorString" (.ptr (.agg [.lit (.string (errTxt 8))])))])
    (hThere : (l.filter fun x => x.1 == "turnstile/api.ErrThere") = [("turnstile/api.ErrThere", .iface "*errors.errorString" (.ptr (.agg [.lit (.string (errTxt 7))])))])
    (hImage : (l.filter fun x => x.1 == "turnstile/api.ErrImage") = [("turnstile/api.ErrImage", .iface "*errors.errorString" (.ptr (.agg [.lit (.string (errTxt 5))])))])
    (hGap : (l.filter fun x => x.1 == "turnstile/api.ErrGap") = [("turnstile/api.ErrGap", .iface "*errors.errorString" (.ptr (.agg [.lit (.string (errTxt 12))])))])
    (hLog : (l.filter fun x => x.1 == "turnstile/api.ErrLog") = [("turnstile/api.ErrLog", .iface "*errors.errorString" (.ptr (.agg [.lit (.string (errTxt 13))])))])
    (hSick : (l.filter fun x => x.1 == "turnstile/api.ErrSick") = [("turnstile/api.ErrSick", .iface "*errors.errorString" (.ptr (.agg [.lit (.string (errTxt 4))])))])
    (hConfig : (l.filter fun x => x.1 == "turnstile/api.ErrConfig") = [("turnstile/api.ErrConfig", .iface "*errors.errorString" (.ptr (.agg [.lit (.string (errTxt 14))])))])
    (hNil : (l.filter fun x => x.1 == "turnstile/api.ErrNil") = [("turnstile/api.ErrNil", .iface "*errors.errorString" (.ptr (.agg [.lit (.string (errTxt 6))])))])
    : ∃ ad, ErrSet allErrs errTxt W ad := by
  obtain ⟨aArg, kArg⟩ := gl_of_laid h hArg hp Tryz.gArg Tryz.gtArg
  obtain ⟨aShort, kShort⟩ := gl_of_laid h hShort hp Tryz.gShort Tryz.gtShort
  obtain ⟨aForm, kForm⟩ := gl_of_laid h hForm hp Tryz.gForm Tryz.gtForm
  obtain ⟨aLong, kLong⟩ := gl_of_laid h hLong hp Tryz.gLong Tryz.gtLong
  obtain ⟨aSum, kSum⟩ := gl_of_laid h hSum hp Tryz.gSum Tryz.gtSum
  obtain ⟨aIo, kIo⟩ := gl_of_laid h hIo hp Tryz.gIo Tryz.gtIo
  obtain ⟨aDown, kDown⟩ := gl_of_laid h hDown hp Tryz.gDown Tryz.gtDown
  obtain ⟨aGone, kGone⟩ := gl_of_laid h hGone hp Tryz.gGone Tryz.gtGone
  obtain ⟨aThere, kThere⟩ := gl_of_laid h hThere hp Tryz.gThere Tryz.gtThere
  obtain ⟨aImage, kImage⟩ := gl_of_laid h hImage hp Tryz.gImage Tryz.gtImage
  obtain ⟨aGap, kGap⟩ := gl_of_laid h hGap hp Tryz.gGap Tryz.gtGap
  obtain ⟨aLog, kLog⟩ := gl_of_laid h hLog hp Tryz.gLog Tryz.gtLog
  obtain ⟨aSick, kSick⟩ := gl_of_laid h hSick hp Tryz.gSick Tryz.gtSick
  obtain ⟨aConfig, kConfig⟩ := gl_of_laid h hConfig hp Tryz.gConfig Tryz.gtConfig
  obtain ⟨aNil, kNil⟩ := gl_of_laid h hNil hp Tryz.gNil Tryz.gtNil
  refine ⟨fun g =>
    if g = 2 then aArg else
    if g = 9 then aShort else
    if g = 10 then aForm else
    if g = 3 then aLong else
    if g = 11 then aSum else
    if g = 0 then aIo else
    if g = 1 then aDown else
    if g = 8 then aGone else
    if g = 7 then aThere else
    if g = 5 then aImage else
    if g = 12 then aGap else
    if g = 13 then aLog else
    if g = 4 then aSick else
    if g = 14 then aConfig else
    aNil, fun g hg => ?_⟩
  simp only [allErrs, List.mem_cons, List.not_mem_nil, or_false] at hg
  rcases hg with rfl | rfl | rfl | rfl | rfl | rfl | rfl | rfl | rfl | rfl | rfl | rfl | rfl | rfl | rfl
  · exact kArg
  · exact kShort
  · exact kForm
  · exact kLong
  · exact kSum
  · exact kIo
  · exact kDown
  · exact kGone
  · exact kThere
  · exact kImage
  · exact kGap
  · exact kLog
  · exact kSick
  · exact kConfig
  · exact kNil
end Go.Proofs.YtfhcnciimnhnlaaGreatDoor
