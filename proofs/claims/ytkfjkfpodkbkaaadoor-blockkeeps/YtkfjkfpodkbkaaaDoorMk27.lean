/- Merged: BkSum. -/
import Derived.Test.YtkfjkfpodkbkaaaDoorMk19
set_option linter.unusedVariables false
set_option linter.unusedSimpArgs false
namespace Go.Proofs.YtkfjkfpodkbkaaaDoor
open Go Go.RowKit

theorem sumAll_flat (a c : List UInt8) : sumC ([a, [0, 0, 0, 0], c] : List (List UInt8)).flatten = sumAll a c := by
  simp [sumAll]

set_option maxHeartbeats 400000 in
theorem sumOf_any (base base' : Nat) (v1 v2 : Value) (a c : List UInt8) (w : World) (ht : Tb w) (h1 : Sl base w v1 a) (h2 : Sl base' w v2 c) (hl1 : a.length ≤ 140737488355328) (hl2 : c.length ≤ 140737488355328) :
    Calls Tryd.prog 26 #[v1, v2] w fun e w' => e = .returned (U (sumAll a c)) ∧ Up w w' := by
  have k1 := h1.mono (Nat.zero_le _)
  have k2 := h2.mono (Nat.zero_le _)
  obtain ⟨a1, c1, rfl, _⟩ := h1
  obtain ⟨a2, c2, rfl, _⟩ := h2
  go_enter Tryd.func26, Tryd.ntmps26
  go_wp2_with fail
  obtain ⟨wa, hwa⟩ : ∃ x, w.alloc (.cells #[.int .u8 0, .int .u8 0, .int .u8 0, .int .u8 0] 67) = x := ⟨_, rfl⟩
  have ua : Up w wa := hwa ▸ Up.alloc _ _
  have hz : wa.heap.size = w.heap.size + 1 := by rw [← hwa]; simp
  have sz : Sl w.heap.size wa (.slice (some ⟨w.heap.size, 0, none⟩) 4 4) [0, 0, 0, 0] := hwa ▸ sl_built w [0, 0, 0, 0] 67 (0, 0)
  rw [hwa]
  obtain ⟨wb, hwb⟩ : ∃ x, wa.alloc (.cells #[.slice a1 a.length c1, .slice (some ⟨w.heap.size, 0, none⟩) 4 4, .slice a2 c.length c2] 27) = x := ⟨_, rfl⟩
  have ub : Up wa wb := hwb ▸ Up.alloc _ _
  have hn := heap_alloc_new wa (.cells #[.slice a1 a.length c1, .slice (some ⟨w.heap.size, 0, none⟩) 4 4, .slice a2 c.length c2] 27)
  rw [hwb, hz] at hn
  rw [hwb]
  have uu := ua.trans ub
  have hrw : Rw wb (.slice (some ⟨w.heap.size + 1, 0, none⟩) 3 3) [a, [0, 0, 0, 0], c] := by
    refine ⟨_, _, rfl, Nat.le_refl _, fun _ => ⟨_, _, rfl, fun i hi => ?_⟩⟩
    match i, hi with
    | 0, _ => exact ⟨_, by rw [cell_of_row _ _ _ _ _ _ hn]; rfl, k1.up uu⟩
    | 1, _ => exact ⟨_, by rw [cell_of_row _ _ _ _ _ _ hn]; rfl, (sz.mono (Nat.zero_le _)).up ub⟩
    | 2, _ => exact ⟨_, by rw [cell_of_row _ _ _ _ _ _ hn]; rfl, k2.up uu⟩
  have so := SumOf_any _ _ wb (ht.up uu) hrw (by simp) (by intro l hl; simp at hl; rcases hl with rfl | rfl | rfl <;> first | assumption | simp)
  rw [sumAll_flat] at so
  refine so.mono ?_
  rintro e w5 ⟨rfl, rfl⟩
  clear so hrw hn k1 k2 sz hwa hwb ua ub hz
  go_wp2
  go_ret
  exact ⟨rfl, uu⟩
end Go.Proofs.YtkfjkfpodkbkaaaDoor
