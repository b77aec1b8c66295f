/- policy: what each call of the face answers, in the numbers of PlNum. -/
import Derived.Test.YtdddfapelencoaaDoorPlFace
import Derived.Test.YtdddfapelencoaaDoorPlFits
import Derived.Test.YtdddfapelencoaaDoorPlAdmit
import Derived.Test.YtdddfapelencoaaDoorLkD
set_option linter.unusedVariables false
namespace Go.Proofs.YtdddfapelencoaaDoor
open Go Go.RowKit

theorem fits_call (P : Pol) (v : Lev) (w : World) : Calls Tryd.prog 25 #[PP P, LL v] w fun e w' => e = .returned (.bool (pFits P v)) ∧ Up w w' := by
  by_cases hF : P.F
  · have e : pFits P v = decide (v.t = v.t ∧ v.i = 0 ∧ v.c = 0) := by
      unfold pFits pForm
      rw [if_pos hF, decide_eq_decide]
      obtain ⟨t, i, c⟩ := v
      simp [hF]
    rw [e]
    exact Fits_kind _ _ _ _ _ _ _ _ _ _ _ _ _ _ v.t 0 0 (ruleOf_F P hF) (fun _ _ => by simp [go_sem]) (fun w => flowForm_any v.t v.i v.c w) w
  · by_cases hG : P.G
    · have e : pFits P v = decide (v.t = 0 ∧ v.i = v.i ∧ v.c = v.c) := by
        unfold pFits pForm
        rw [if_neg hF, if_pos hG, decide_eq_decide]
        obtain ⟨t, i, c⟩ := v
        simp [hG]
      rw [e]
      exact Fits_kind _ _ _ _ _ _ _ _ _ _ _ _ _ _ 0 v.i v.c (ruleOf_G P hG) (fun _ _ => by simp [go_sem]) (fun w => gridForm_any v.t v.i v.c w) w
    · rw [show pFits P v = false from decide_eq_false (fun h => h.1.elim hF hG)]
      exact Fits_none _ _ _ _ _ _ _ _ (ruleOf_none P hF hG) w
theorem covers_call (P : Pol) (c v : Lev) (w : World) : Calls Tryd.prog 75 #[PP P, LL c, LL v] w fun e w' => e = .returned (.bool (pCov P c v)) ∧ Up w w' := by
  by_cases hF : P.F
  · rw [show pCov P c v = _ from if_pos hF]
    exact Covers_kind _ _ _ _ _ _ _ _ _ _ _ _ _ _ _ _ _ _ (ruleOf_F P hF) (fun _ _ => by simp [go_sem]) (fun w => flowCovers_any c.t c.i c.c v.t v.i v.c w) w
  · by_cases hG : P.G
    · rw [show pCov P c v = gCov c v by unfold pCov; rw [if_neg hF, if_pos hG]]
      exact Covers_kind _ _ _ _ _ _ _ _ _ _ _ _ _ _ _ _ _ _ (ruleOf_G P hG) (fun _ _ => by simp [go_sem]) (fun w => gridCovers_any c.t c.i c.c v.t v.i v.c w) w
    · rw [show pCov P c v = false by unfold pCov; rw [if_neg hF, if_neg hG]]
      exact Covers_none _ _ _ _ _ _ _ _ _ _ _ (ruleOf_none P hF hG) w
end Go.Proofs.YtdddfapelencoaaDoor
