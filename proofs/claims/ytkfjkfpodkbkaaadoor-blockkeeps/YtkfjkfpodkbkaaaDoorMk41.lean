/- Merged: ErrTab, LaidT, BkKn. -/
import Derived.Test.YtkfjkfpodkbkaaaDoorMk40
import Derived.Test.YtkfjkfpodkbkaaaDoorMk10
import Derived.Test.YtkfjkfpodkbkaaaDoorRows
import Derived.LaidLaws
import Derived.MakeChecks
import Derived.ProofKit
import Derived.OpenShut
import Derived.Test.YtkfjkfpodkbkaaaDoorMk35
set_option linter.unusedVariables false
namespace Go.Proofs.YtkfjkfpodkbkaaaDoor
open Go Go.RowKit Go.ChangeShapes Go.WideShapes

def txtOf : DataW Unit → List UInt8
  | .iface _ (.ptr (.agg [.lit (.string t)])) => t
  | _ => []
/-- The text of the error in the variable g. -/
def errTxt (g : Nat) : List UInt8 :=
  if g = 0 then txtOf Rows.laid_turnstile_api_ErrArg else
  if g = 2 then txtOf Rows.laid_turnstile_api_ErrShort else
  if g = 3 then txtOf Rows.laid_turnstile_api_ErrForm else
  if g = 1 then txtOf Rows.laid_turnstile_api_ErrLong else
  if g = 4 then txtOf Rows.laid_turnstile_api_ErrSum else
  txtOf Rows.laid_turnstile_api_ErrNil
theorem errTxt_unlike : Unlike errTxt := by
  unfold Unlike
  decide +kernel
theorem Tryd.gArg : Tryd.prog.globalNamed "turnstile/api.ErrArg" = some 0 := by kernel_rfl
theorem Tryd.gtArg : (Tryd.prog.globals[0]?).map (·.type) = some 29 := by kernel_rfl
theorem Tryd.gLong : Tryd.prog.globalNamed "turnstile/api.ErrLong" = some 1 := by kernel_rfl
theorem Tryd.gtLong : (Tryd.prog.globals[1]?).map (·.type) = some 29 := by kernel_rfl
theorem Tryd.gSum : Tryd.prog.globalNamed "turnstile/api.ErrSum" = some 4 := by kernel_rfl
theorem Tryd.gtSum : (Tryd.prog.globals[4]?).map (·.type) = some 29 := by kernel_rfl

end Go.Proofs.YtkfjkfpodkbkaaaDoor

set_option linter.unusedVariables false
namespace Go.Proofs.YtkfjkfpodkbkaaaDoor
open Go Go.RowKit Go.ChangeShapes Go.WideShapes


theorem halfV_getD (r : Nat) (hr : r < 16) : ((halfV r).toNat : Int) = (halfT.getD r 0 : Nat) := by
  have h : ∀ r : Fin 16, (halfV r.val).toNat = halfT.getD r.val 0 := by decide +kernel
  rw [h ⟨r, hr⟩]

theorem table_of_laid {W : World} (h : laidMetH Tryd.prog [("turnstile/crc.halves", Rows.laid_turnstile_crc_halves)] W) : Tb W := by
  intro r hr
  rw [MakeChecks.laidMetH_plain _ _ _ (by kernel_rfl)] at h
  obtain ⟨ps, ⟨g, t, cs, fuel, p, q, hg, ht, hv, hd, _, _⟩, _, _⟩ := h
  obtain rfl := Option.some.inj ((show Tryd.prog.globalNamed "turnstile/crc.halves" = some 6 by kernel_rfl).symm.trans hg)
  obtain rfl := Option.some.inj ((show (Tryd.prog.globals[6]?).map (·.type) = some 80 by kernel_rfl).symm.trans ht)
  obtain ⟨xs, m, _, ex, _, hl, hel⟩ := DataW.trod_array Tryd.underlying80 hd
  have c5 : Tryd.prog.cellsOf 53 = 1 := by kernel_rfl
  have hE := hel r hr
  rw [c5, Nat.mul_one, List.getElem?_eq_getElem (by omega)] at hE
  obtain ⟨z, e1, e2, _⟩ := DataW.trod_int Tryd.underlying53 hE
  have hlen : halfT.length = 16 := rfl
  have e3 : (xs.map (·.1)) = halfT.map fun n => .lit (.int .u32 (n : Int)) := (DataW.agg.inj (Prod.mk.inj ex).1).symm
  have e4 : (xs.map (·.1))[r]? = (halfT.map fun (n : Nat) => (DataW.lit (.int .u32 (n : Int)) : DataW Unit))[r]? := by rw [e3]
  rw [List.getElem?_map, List.getElem?_map, List.getElem?_eq_getElem (by omega : r < xs.length), List.getElem?_eq_getElem (by omega : r < halfT.length), e2] at e4
  have hz : z = (halfT.getD r 0 : Nat) := by
    simp only [Option.map_some, Option.some.injEq, DataW.lit.injEq, Lit.int.injEq, true_and] at e4
    rw [e4, List.getD, List.getElem?_eq_getElem (by omega : r < halfT.length)]; rfl
  rw [World.var?_cell hg hv r, U, halfV_getD r hr, ← hz]
  have : cs.toList[r]? = some (.int .u32 z) := by
    have h0 : ((cs.toList.drop r).take 1)[0]? = some (.int .u32 z) := by rw [e1]; rfl
    simpa using h0
  simpa using this
end Go.Proofs.YtkfjkfpodkbkaaaDoor

set_option linter.unusedVariables false
set_option linter.unusedSimpArgs false
namespace Go.Proofs.YtkfjkfpodkbkaaaDoor
open Go Go.RowKit Go.ChangeShapes Go.WideShapes

structure Kn (w : World) (ad : Nat → Addr) : Prop where
  tb : Tb w
  er : ErrSet blkErrs errTxt w ad
theorem Kn.up {w w' : World} {ad : Nat → Addr} (h : Kn w ad) (u : Up w w') : Kn w' ad := ⟨h.tb.up u, h.er.up u⟩
theorem Kn.gl {w : World} {ad : Nat → Addr} (h : Kn w ad) : GlS w ad := fun g hg => (h.er g hg).1
theorem blk_sub : ∀ g ∈ blkErrs, g ∈ allErrs := by decide
theorem Kn.ne {w : World} {ad : Nat → Addr} (h : Kn w ad) (g k : Nat) (hg : g ∈ blkErrs) (hk : k ∈ blkErrs) (hne : g ≠ k) : (binOp .eql 29 (E (ad g)) (E (ad k))).run Tryd.prog w = .ok (.bool false) w :=
  eq_other (h.er g hg).2 (h.er k hk).2 (errTxt_unlike g (blk_sub g hg) k (blk_sub k hk) hne)
theorem Kn.cell {w : World} {ad : Nat → Addr} (h : Kn w ad) (g : Nat) (hg : g ∈ blkErrs) : w.cell? ⟨g, 0, none⟩ = some (E (ad g)) := (h.er g hg).1.cell

theorem kn_of {l : List (String × DataW Unit)} {W : World} (h : laidMetH Tryd.prog l W) (hp : (l.all fun x => x.2.handleName?.isNone) = true)
    (hT : (l.filter fun x => x.1 == "turnstile/crc.halves") = [("turnstile/crc.halves", Rows.laid_turnstile_crc_halves)])
    (hArg : (l.filter fun x => x.1 == "turnstile/api.ErrArg") = [("turnstile/api.ErrArg", .iface "*errors.errorString" (.ptr (.agg [.lit (.string (errTxt 0))])))])
    (hShort : (l.filter fun x => x.1 == "turnstile/api.ErrShort") = [("turnstile/api.ErrShort", .iface "*errors.errorString" (.ptr (.agg [.lit (.string (errTxt 2))])))])
    (hForm : (l.filter fun x => x.1 == "turnstile/api.ErrForm") = [("turnstile/api.ErrForm", .iface "*errors.errorString" (.ptr (.agg [.lit (.string (errTxt 3))])))])
    (hLong : (l.filter fun x => x.1 == "turnstile/api.ErrLong") = [("turnstile/api.ErrLong", .iface "*errors.errorString" (.ptr (.agg [.lit (.string (errTxt 1))])))])
    (hSum : (l.filter fun x => x.1 == "turnstile/api.ErrSum") = [("turnstile/api.ErrSum", .iface "*errors.errorString" (.ptr (.agg [.lit (.string (errTxt 4))])))])
    : ∃ ad, Kn W ad := by
  have ht := h.filter (fun x => x.1 == "turnstile/crc.halves")
  rw [hT] at ht
  obtain ⟨aArg, kArg⟩ := gl_of_laid h hArg hp Tryd.gArg Tryd.gtArg
  obtain ⟨aShort, kShort⟩ := gl_of_laid h hShort hp Tryd.gShort Tryd.gtShort
  obtain ⟨aForm, kForm⟩ := gl_of_laid h hForm hp Tryd.gForm Tryd.gtForm
  obtain ⟨aLong, kLong⟩ := gl_of_laid h hLong hp Tryd.gLong Tryd.gtLong
  obtain ⟨aSum, kSum⟩ := gl_of_laid h hSum hp Tryd.gSum Tryd.gtSum
  refine ⟨fun g =>
    if g = 0 then aArg else
    if g = 2 then aShort else
    if g = 3 then aForm else
    if g = 1 then aLong else
    aSum, table_of_laid ht, fun g hg => ?_⟩
  simp only [blkErrs, List.mem_cons, List.not_mem_nil, or_false] at hg
  rcases hg with rfl | rfl | rfl | rfl | rfl
  · exact kArg
  · exact kLong
  · exact kShort
  · exact kForm
  · exact kSum
theorem kn_all {w : World} {ad : Nat → Addr} (h : ErrSet allErrs errTxt w ad) (t : Tb w) : Kn w ad := ⟨t, fun g hg => h g (blk_sub g hg)⟩

theorem decB_long {b : List UInt8} {e : DecE} (h : decB b = .error e) : (e = .short ↔ b.length < 512) := by
  by_cases h1 : b.length < 512
  · rw [decB, if_pos h1] at h
    cases h
    exact ⟨fun _ => h1, fun _ => rfl⟩
  · refine ⟨fun he => ?_, fun h2 => absurd h2 h1⟩
    subst he
    rw [decB, if_neg h1] at h
    split at h
    · cases h
    · split at h
      · cases h
      · split at h
        · cases h
        · split at h <;> cases h

end Go.Proofs.YtkfjkfpodkbkaaaDoor
