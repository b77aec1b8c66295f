/- From what a row lists of the table of half bytes to its cells in memory. -/
import Derived.Test.YtooclofdljampaaDoorSteps
import Derived.Test.YtooclofdljampaaDoorRows
import Derived.LaidLaws
import Derived.MakeChecks
import Derived.ProofKit
import Derived.OpenShut
set_option linter.unusedVariables false
namespace Go.Proofs.YtooclofdljampaaDoor
open Go Go.RowKit Go.ChangeShapes Go.WideShapes


theorem halfV_getD (r : Nat) (hr : r < 16) : ((halfV r).toNat : Int) = (halfT.getD r 0 : Nat) := by
  have h : ∀ r : Fin 16, (halfV r.val).toNat = halfT.getD r.val 0 := by decide +kernel
  rw [h ⟨r, hr⟩]

theorem table_of_laid {W : World} (h : laidMetH Tryd.prog [("turnstile/crc.halves", Rows.laid_turnstile_crc_halves)] W) : Tb W := by
  intro r hr
  rw [MakeChecks.laidMetH_plain _ _ _ (by kernel_rfl)] at h
  obtain ⟨ps, ⟨g, t, cs, fuel, p, q, hg, ht, hv, hd, _, _⟩, _, _⟩ := h
  obtain rfl := Option.some.inj ((show Tryd.prog.globalNamed "turnstile/crc.halves" = some 15 by kernel_rfl).symm.trans hg)
  obtain rfl := Option.some.inj ((show (Tryd.prog.globals[15]?).map (·.type) = some 115 by kernel_rfl).symm.trans ht)
  obtain ⟨xs, m, _, ex, _, hl, hel⟩ := DataW.trod_array Tryd.underlying115 hd
  have c5 : Tryd.prog.cellsOf 61 = 1 := by kernel_rfl
  have hE := hel r hr
  rw [c5, Nat.mul_one, List.getElem?_eq_getElem (by omega)] at hE
  obtain ⟨z, e1, e2, _⟩ := DataW.trod_int Tryd.underlying61 hE
  have hlen : halfT.length = 16 := rfl
  have e3 : (xs.map (·.1)) = halfT.map fun n => .lit (.int .u32 (n : Int)) := (DataW.agg.inj (Prod.mk.inj ex).1).symm
  have e4 : (xs.map (·.1))[r]? = (halfT.map fun (n : Nat) => (DataW.lit (.int .u32 (n : Int)) : DataW Unit))[r]? := by rw [e3]
  rw [List.getElem?_map, List.getElem?_map, List.getElem?_eq_getElem (by omega : r < xs.length), List.getElem?_eq_getElem (by omega : r < halfT.length), e2] at e4
  have hz : z = (halfT.getD r 0 : Nat) := by
    simp only [Option.map_some, Option.some.injEq, DataW.lit.injEq, Lit.int.injEq, true_and] at e4
    rw [e4, List.getD, List.getElem?_eq_getElem (by omega : r < halfT.length)]; rfl
  rw [World.var?_cell hg hv r, U, halfV_getD r hr, ← hz]
  have : cs.toList[r]? = some (.int .u32 z) := by
    have h0 : ((cs.toList.drop r).take 1)[0]? = some (.int .u32 z) := by rw [e1]; rfl
    simpa using h0
  simpa using this
end Go.Proofs.YtooclofdljampaaDoor
