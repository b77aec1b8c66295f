/- Merged: Awake. -/
import Derived.Test.YtkfjkfpodkbkaaaDoorMk10
import Derived.Lib.SlBytesConst
set_option linter.unusedVariables false
namespace Go.Proofs.YtkfjkfpodkbkaaaDoor
open Go Go.RowKit

/-- The slice v reads as a row of slices of bytes. -/
def Rw (w : World) (v : Value) (L : List (List UInt8)) : Prop :=
  ∃ ao cap, v = .slice ao L.length cap ∧ L.length ≤ cap ∧ (L ≠ [] → ∃ b o, ao = some ⟨b, o, none⟩ ∧ ∀ i (h : i < L.length), ∃ vi, w.cell? ⟨b, o + i, none⟩ = some vi ∧ Sl 0 w vi L[i])
theorem Rw.up {w w' : World} {v : Value} {L : List (List UInt8)} (h : Rw w v L) (hu : Up w w') : Rw w' v L := by
  obtain ⟨ao, cap, rfl, hc, hx⟩ := h
  refine ⟨ao, cap, rfl, hc, fun hn => ?_⟩
  obtain ⟨b, o, rfl, hl⟩ := hx hn
  refine ⟨b, o, rfl, fun i hi => ?_⟩
  obtain ⟨vi, hv, hs⟩ := hl i hi
  exact ⟨vi, by rw [hu.cell (World.block_lt_of_cell? w _ hv)]; exact hv, hs.up hu⟩

theorem sumC_take (L : List (List UInt8)) (k : Nat) (h : k < L.length) : sumC (L.take (k + 1)).flatten = addC (sumC (L.take k).flatten) L[k] := by
  rw [List.take_succ_eq_append_getElem h, List.flatten_append, sumC_append]
  simp

set_option maxHeartbeats 400000 in
theorem SumOf_any (v : Value) (L : List (List UInt8)) (w : World) (ht : Tb w) (hv : Rw w v L) (hn : L.length ≤ 140737488355328) (hl : ∀ l ∈ L, l.length ≤ 140737488355328) :
    Calls Tryd.prog 33 #[v] w fun e w' => e = .returned (U (sumC L.flatten)) ∧ w' = w := by
  generalize hR : sumC L.flatten = R
  have HR : Hid (sumC L.flatten = R) := hR
  clear hR
  obtain ⟨ao, cap, rfl, hc, hx⟩ := hv
  go_enter Tryd.func33, Tryd.ntmps33
  go_wp2
  go_loopg [3, 8] L.length (fun g x i wr => w = wr ∧ ∃ k : Nat, k ≤ L.length ∧ g = L.length - k ∧ i = .int .i64 k ∧ x = U (sumC (L.take k).flatten))
  case atStart => exact ⟨rfl, 0, by omega, rfl, rfl, (congrArg U sumC_nil).symm⟩
  case round =>
    obtain ⟨rfl, k, hk, rfl, rfl, rfl⟩ := hrel
    by_cases hlt : k < L.length
    · obtain ⟨b, o, rfl, hat⟩ := hx (by rintro rfl; simp at hlt)
      obtain ⟨vi, hca, hsl⟩ := hat k hlt
      have ha := Add_any 0 (sumC (L.take k).flatten) vi L[k] w ht hsl (hl _ (List.getElem_mem hlt))
      rw [← sumC_take L k hlt] at ha
      have Hlt : Hid (k < L.length) := hlt
      obtain ⟨ai, ci, rfl, _⟩ := hsl
      clear hx hat
      have HZ : Hid (∃ Z, sumC (L.take (k + 1)).flatten = Z) := ⟨_, rfl⟩
      obtain ⟨Z, hZ⟩ := HZ
      have HZ : Hid (sumC (L.take (k + 1)).flatten = Z) := hZ
      rw [hZ] at ha
      clear hZ
      go_wp2_with fail
      refine ha.mono ?_
      rintro e w1 ⟨rfl, rfl⟩
      clear ha
      go_wp2
      go_roundg (L.length - (k + 1))
      case measure => have := Hlt.out; omega
      case rel => exact ⟨rfl, k + 1, Hlt.out, rfl, by go_num, by rw [HZ.out]⟩
    · obtain rfl : k = L.length := by omega
      rw [List.take_length, HR.out]
      clear hlt hx
      go_wp2
      go_ret
      exact ⟨rfl, rfl⟩

/-- A slice of bytes that was just built. -/
theorem sl_built (w : World) (cs : List UInt8) (t : TypeId) (fz : Nat × Nat) : Sl w.heap.size (w.alloc (.cells (Bv cs).toArray t fz)) (.slice (some ⟨w.heap.size, 0, none⟩) cs.length cs.length) cs := by
  refine ⟨_, _, rfl, Nat.le_refl _, (by intro h; cases h), fun _ => ⟨_, _, rfl, Nat.le_refl _, fun i hi => ?_⟩⟩
  rw [cell_of_row _ _ _ _ _ _ (heap_alloc_new _ _)]
  simp [hi]

theorem sum_nine : sumC [49, 50, 51, 52, 53, 54, 55, 56, 57] = 3808858755#32 := by decide +kernel
theorem join_abc : joinC 910901175#32 1799402614#32 2 = 3293632151#32 := by decide +kernel
theorem add_de : addC 910901175#32 [100, 101] = 3293632151#32 := by decide +kernel
theorem sum_abc : sumC ([[97, 98], [], [99]] : List (List UInt8)).flatten = 910901175#32 := by decide +kernel

end Go.Proofs.YtkfjkfpodkbkaaaDoor
