/- crc: what SumOf answers; layer 2's law function awake answers true. -/
import Derived.Test.YtikdmnfmnkmffaaDoorSums
import Derived.Lib.SlBytesConst
set_option linter.unusedVariables false
namespace Go.Proofs.YtikdmnfmnkmffaaDoor
open Go Go.RowKit

/-- The slice v reads as a row of slices of bytes. -/
def Rw (w : World) (v : Value) (L : List (List UInt8)) : Prop :=
  ∃ ao cap, v = .slice ao L.length cap ∧ L.length ≤ cap ∧ (L ≠ [] → ∃ b o, ao = some ⟨b, o, none⟩ ∧ ∀ i (h : i < L.length), ∃ vi, w.cell? ⟨b, o + i, none⟩ = some vi ∧ Sl 0 w vi L[i])
theorem Rw.up {w w' : World} {v : Value} {L : List (List UInt8)} (h : Rw w v L) (hu : Up w w') : Rw w' v L := by
  obtain ⟨ao, cap, rfl, hc, hx⟩ := h
  refine ⟨ao, cap, rfl, hc, fun hn => ?_⟩
  obtain ⟨b, o, rfl, hl⟩ := hx hn
  refine ⟨b, o, rfl, fun i hi => ?_⟩
  obtain ⟨vi, hv, hs⟩ := hl i hi
  exact ⟨vi, by rw [hu.cell (World.block_lt_of_cell? w _ hv)]; exact hv, hs.up hu⟩

theorem sumC_take (L : List (List UInt8)) (k : Nat) (h : k < L.length) : sumC (L.take (k + 1)).flatten = addC (sumC (L.take k).flatten) L[k] := by
  rw [List.take_succ_eq_append_getElem h, List.flatten_append, sumC_append]
  simp

set_option maxHeartbeats 400000 in
theorem SumOf_any (v : Value) (L : List (List UInt8)) (w : World) (ht : Tb w) (hv : Rw w v L) (hn : L.length ≤ 140737488355328) (hl : ∀ l ∈ L, l.length ≤ 140737488355328) :
    Calls Tryd.prog 15 #[v] w fun e w' => e = .returned (U (sumC L.flatten)) ∧ w' = w := by
  generalize hR : sumC L.flatten = R
  have HR : Hid (sumC L.flatten = R) := hR
  clear hR
  obtain ⟨ao, cap, rfl, hc, hx⟩ := hv
  go_enter Tryd.func15, Tryd.ntmps15
  go_wp2
  go_loopg [3, 8] L.length (fun g x i wr => w = wr ∧ ∃ k : Nat, k ≤ L.length ∧ g = L.length - k ∧ i = .int .i64 k ∧ x = U (sumC (L.take k).flatten))
  case atStart => exact ⟨rfl, 0, by omega, rfl, rfl, (congrArg U sumC_nil).symm⟩
  case round =>
    obtain ⟨rfl, k, hk, rfl, rfl, rfl⟩ := hrel
    by_cases hlt : k < L.length
    · obtain ⟨b, o, rfl, hat⟩ := hx (by rintro rfl; simp at hlt)
      obtain ⟨vi, hca, hsl⟩ := hat k hlt
      have ha := Add_any 0 (sumC (L.take k).flatten) vi L[k] w ht hsl (hl _ (List.getElem_mem hlt))
      rw [← sumC_take L k hlt] at ha
      have Hlt : Hid (k < L.length) := hlt
      obtain ⟨ai, ci, rfl, _⟩ := hsl
      clear hx hat
      have HZ : Hid (∃ Z, sumC (L.take (k + 1)).flatten = Z) := ⟨_, rfl⟩
      obtain ⟨Z, hZ⟩ := HZ
      have HZ : Hid (sumC (L.take (k + 1)).flatten = Z) := hZ
      rw [hZ] at ha
      clear hZ
      go_wp2_with fail
      refine ha.mono ?_
      rintro e w1 ⟨rfl, rfl⟩
      clear ha
      go_wp2
      go_roundg (L.length - (k + 1))
      case measure => have := Hlt.out; omega
      case rel => exact ⟨rfl, k + 1, Hlt.out, rfl, by go_num, by rw [HZ.out]⟩
    · obtain rfl : k = L.length := by omega
      rw [List.take_length, HR.out]
      clear hlt hx
      go_wp2
      go_ret
      exact ⟨rfl, rfl⟩

/-- A slice of bytes that was just built. -/
theorem sl_built (w : World) (cs : List UInt8) (t : TypeId) (fz : Nat × Nat) : Sl w.heap.size (w.alloc (.cells (Bv cs).toArray t fz)) (.slice (some ⟨w.heap.size, 0, none⟩) cs.length cs.length) cs := by
  refine ⟨_, _, rfl, Nat.le_refl _, (by intro h; cases h), fun _ => ⟨_, _, rfl, Nat.le_refl _, fun i hi => ?_⟩⟩
  rw [cell_of_row _ _ _ _ _ _ (heap_alloc_new _ _)]
  simp [hi]

theorem sum_nine : sumC [49, 50, 51, 52, 53, 54, 55, 56, 57] = 3808858755#32 := by decide +kernel
theorem join_abc : joinC 910901175#32 1799402614#32 2 = 3293632151#32 := by decide +kernel
theorem add_de : addC 910901175#32 [100, 101] = 3293632151#32 := by decide +kernel
theorem sum_abc : sumC ([[97, 98], [], [99]] : List (List UInt8)).flatten = 910901175#32 := by decide +kernel

set_option maxHeartbeats 800000 in
theorem awake_any (w : World) (ht : Tb w) : Calls Tryd.prog 9 #[] w fun e w' => e = .returned (.bool true) ∧ Up w w' := by
  have kc := fun (w : World) (C : Array Value) (n c : Nat) => Lib.run_convert_bytes_const (P := Tryd.prog) w 26 5 C n c Tryd.underlying26 Tryd.underlying5
  go_enter Tryd.func9, Tryd.ntmps9
  go_wp2_with fail
  have u1 : Up w (w.alloc (.cells #[.int .u8 49, .int .u8 50, .int .u8 51, .int .u8 52, .int .u8 53, .int .u8 54, .int .u8 55, .int .u8 56, .int .u8 57] 5 (9, 10))) := Up.alloc _ _
  have s1 := Sum_any w.heap.size _ [49, 50, 51, 52, 53, 54, 55, 56, 57] _ (ht.up u1) (sl_built w [49, 50, 51, 52, 53, 54, 55, 56, 57] 5 (9, 10)) (by simp)
  rw [sum_nine] at s1
  refine s1.mono ?_
  rintro e w1 ⟨rfl, rfl⟩
  clear s1
  generalize w.alloc (.cells #[.int .u8 49, .int .u8 50, .int .u8 51, .int .u8 52, .int .u8 53, .int .u8 54, .int .u8 55, .int .u8 56, .int .u8 57] 5 (9, 10)) = w1 at u1 ⊢
  have j1 := Join_any 910901175#32 1799402614#32 2 (by omega) (by omega) w1
  rw [show (2 : Int).toNat = 2 from rfl, join_abc] at j1
  go_wp2_with fail
  refine j1.mono ?_
  rintro e w2 ⟨rfl, rfl⟩
  clear j1
  go_wp2_with fail
  have u2 : Up w2 (w2.alloc (.cells #[.int .u8 100, .int .u8 101] 5 (2, 3))) := Up.alloc _ _
  have s2 := Add_any w2.heap.size 910901175#32 _ [100, 101] _ (ht.up (u1.trans u2)) (sl_built w2 [100, 101] 5 (2, 3)) (by simp)
  rw [add_de] at s2
  refine s2.mono ?_
  rintro e w3 ⟨rfl, rfl⟩
  clear s2
  generalize w2.alloc (.cells #[.int .u8 100, .int .u8 101] 5 (2, 3)) = w3 at u2 ⊢
  have u3 := u1.trans u2
  clear u1 u2
  have kc2 : ∀ (X : Obj) (C : Array Value) (n c : Nat), (convert 26 26 (.slice (some ⟨w3.heap.size + 1, 0, none⟩) n c)).run Tryd.prog ((w3.alloc X).alloc (.cells C 5)) = .ok (.slice (some ⟨w3.heap.size + 1, 0, none⟩) n c) ((w3.alloc X).alloc (.cells C 5 (C.size, C.size + 1))) := fun X C n c => by
    have := kc (w3.alloc X) C n c
    simpa using this
  go_wp2_with fail
  clear kc kc2
  obtain ⟨wa, hwa⟩ : ∃ x, w3.alloc (.cells #[.int .u8 97, .int .u8 98] 5 (2, 3)) = x := ⟨_, rfl⟩
  have a1 : Up w3 wa := hwa ▸ Up.alloc _ _
  have hza : wa.heap.size = w3.heap.size + 1 := by rw [← hwa]; simp
  have sa : Sl w3.heap.size wa (.slice (some ⟨w3.heap.size, 0, none⟩) 2 2) [97, 98] := hwa ▸ sl_built w3 [97, 98] 5 (2, 3)
  rw [hwa]
  obtain ⟨wb, hwb⟩ : ∃ x, wa.alloc (.cells #[.int .u8 99] 5 (1, 2)) = x := ⟨_, rfl⟩
  have a2 : Up wa wb := hwb ▸ Up.alloc _ _
  have hzb : wb.heap.size = w3.heap.size + 1 + 1 := by rw [← hwb, ← hza]; simp
  have sb : Sl wa.heap.size wb (.slice (some ⟨w3.heap.size + 1, 0, none⟩) 1 1) [99] := by
    have h := sl_built wa [99] 5 (1, 2)
    rw [← hza, ← hwb]; exact h
  rw [hwb]
  obtain ⟨w4, hw4⟩ : ∃ x, wb.alloc (.cells #[.slice (some ⟨w3.heap.size, 0, none⟩) 2 2, .slice none 0 0, .slice (some ⟨w3.heap.size + 1, 0, none⟩) 1 1] 26) = x := ⟨_, rfl⟩
  have a3 : Up wb w4 := hw4 ▸ Up.alloc _ _
  have hn := heap_alloc_new wb (.cells #[.slice (some ⟨w3.heap.size, 0, none⟩) 2 2, .slice none 0 0, .slice (some ⟨w3.heap.size + 1, 0, none⟩) 1 1] 26)
  rw [hw4, hzb] at hn
  rw [hw4]
  have s5 := (sa.mono (Nat.zero_le _)).up (a2.trans a3)
  have s6 := (sb.mono (Nat.zero_le _)).up a3
  have U3 := u3.trans (a1.trans (a2.trans a3))
  clear u3 a1 a2 a3 hwa hwb hw4 hza hzb sa sb
  have hrw : Rw w4 (.slice (some ⟨w3.heap.size + 1 + 1, 0, none⟩) 3 3) [[97, 98], [], [99]] := by
    refine ⟨_, _, rfl, Nat.le_refl _, fun _ => ⟨_, _, rfl, fun i hi => ?_⟩⟩
    match i, hi with
    | 0, _ => exact ⟨_, by rw [cell_of_row _ _ _ _ _ _ hn]; rfl, s5⟩
    | 1, _ => exact ⟨_, by rw [cell_of_row _ _ _ _ _ _ hn]; rfl, Sl.nil _ _⟩
    | 2, _ => exact ⟨_, by rw [cell_of_row _ _ _ _ _ _ hn]; rfl, s6⟩
  have so := SumOf_any _ _ w4 (ht.up U3) hrw (by simp) (by intro l hl; simp at hl; rcases hl with rfl | rfl | rfl <;> simp)
  rw [sum_abc] at so
  refine so.mono ?_
  rintro e w5 ⟨rfl, rfl⟩
  clear so hrw hn s5 s6
  go_wp2
  go_ret
  exact ⟨rfl, U3⟩
end Go.Proofs.YtikdmnfmnkmffaaDoor
