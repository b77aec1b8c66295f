/- window: the law's functions awake and admits. -/
import Derived.Test.YtdopbnmmcjofmaaWnCalls
import Derived.Deep.RegionHeld3
import Derived.BigQuiet
import Derived.Deep.QuietTactic
set_option linter.unusedVariables false
namespace Go.Proofs.Ytdopbnmmcjofmaa
open Go Go.RowKit

theorem wlive_admit (w : World) : Calls Try.prog 13 #[.int .u64 5, .int .u64 10, .int .u64 3, .int .u64 4, .int .u64 40, .int .u64 5] w fun e w' => e = .returned (.tuple #[.int .u64 4, .int .u64 5, .bool true]) ∧ w' = w := by
  have h : WFits 5 10 3 4 40 5 := by decide
  have k := wAdmit_any 5 10 3 4 40 5 (by unfold N64; omega) (by unfold N64; omega) (by unfold N64; omega) w
  rw [wIx, if_pos h, wCt, if_pos h, decide_eq_true h] at k
  exact k
theorem wlive_retry (w : World) : Calls Try.prog 10 #[.int .u64 5, .int .u64 10, .int .u64 3, .int .u64 4, .int .u64 12, .int .u64 1] w fun e w' => e = .returned (.int .u64 30) ∧ Up w w' :=
  wRetry_any 5 10 3 4 12 1 (by unfold N64; omega) (by unfold N64; omega) (by unfold N64; omega) (by unfold N64; omega) w
theorem wlive_index (w : World) : Calls Try.prog 14 #[.int .u64 10, .int .u64 39] w fun e w' => e = .returned (.int .u64 3) ∧ w' = w :=
  Index_any 10 39 (by unfold N64; omega) w
theorem wlive_start (w : World) : Calls Try.prog 15 #[.int .u64 10, .int .u64 3] w fun e w' => e = .returned (.int .u64 30) ∧ Up w w' :=
  Start_any 10 3 (by unfold N64; omega) (by unfold N64; omega) w
theorem wlive_left (w : World) : Calls Try.prog 12 #[.int .u64 5, .int .u64 10, .int .u64 3, .int .u64 4, .int .u64 39] w fun e w' => e = .returned (.int .u64 1) ∧ w' = w :=
  Left_any 5 10 3 4 39 (by unfold N64; omega) (by unfold N64; omega) w

set_option maxHeartbeats 800000 in
theorem wawake_any (w : World) : Calls Try.prog 8 #[] w fun e w' => e = .returned (.bool true) ∧ Up w w' := by
  go_enter Try.func8, Try.ntmps8
  go_wp2_with fail
  refine (wlive_admit _).mono ?_
  rintro e w1 ⟨rfl, rfl⟩
  go_wp2_with fail
  refine (wlive_retry _).mono ?_
  rintro e w2 ⟨rfl, u2⟩
  go_wp2_with fail
  refine (wlive_index _).mono ?_
  rintro e w3 ⟨rfl, rfl⟩
  go_wp2_with fail
  refine (wlive_start _).mono ?_
  rintro e w4 ⟨rfl, u4⟩
  go_wp2_with fail
  refine (wlive_left _).mono ?_
  rintro e w5 ⟨rfl, rfl⟩
  go_wp2
  go_ret
  exact ⟨rfl, u2.trans u4⟩

/-- An Op as a value. -/
abbrev Ow (kind : Int) (limit span index count now n : Nat) : Value := .agg #[.int .i64 kind, V limit, V span, V index, V count, V now, V n]

/-- A box with an Op holds still, whatever was made since. -/
abbrev O7 (w : World) (g : Nat) (k : Int) (a1 a2 a3 a4 a5 a6 : Nat) (w' : World) : Prop :=
  w'.cell? ⟨g, 0, none⟩ = some (.int .i64 k) ∧ w'.cell? ⟨g, 1, none⟩ = some (V a1) ∧ w'.cell? ⟨g, 2, none⟩ = some (V a2) ∧ w'.cell? ⟨g, 3, none⟩ = some (V a3) ∧ w'.cell? ⟨g, 4, none⟩ = some (V a4) ∧ w'.cell? ⟨g, 5, none⟩ = some (V a5) ∧ w'.cell? ⟨g, 6, none⟩ = some (V a6) ∧ Up w w'
theorem o7_grow {w : World} {g : Nat} {k : Int} {a1 a2 a3 a4 a5 a6 : Nat} {w' w'' : World} (h : O7 w g k a1 a2 a3 a4 a5 a6 w') (hu : Up w' w'') : O7 w g k a1 a2 a3 a4 a5 a6 w'' := by
  obtain ⟨h0, h1, h2, h3, h4, h5, h6, h7⟩ := h
  have hb := World.block_lt_of_cell? w' _ h0
  have hc := (bcell hu).1
  exact ⟨by rw [hc _ _ hb]; exact h0, by rw [hc _ _ hb]; exact h1, by rw [hc _ _ hb]; exact h2, by rw [hc _ _ hb]; exact h3, by rw [hc _ _ hb]; exact h4, by rw [hc _ _ hb]; exact h5, by rw [hc _ _ hb]; exact h6, h7.trans hu⟩
theorem o7_new (w : World) (k : Int) (a1 a2 a3 a4 a5 a6 : Nat) : O7 w w.heap.size k a1 a2 a3 a4 a5 a6 (w.alloc (.cells #[.int .i64 k, V a1, V a2, V a3, V a4, V a5, V a6] 27)) :=
  ⟨by rw [cell_of_row _ _ _ _ _ _ (heap_alloc_new _ _)]; rfl, by rw [cell_of_row _ _ _ _ _ _ (heap_alloc_new _ _)]; rfl, by rw [cell_of_row _ _ _ _ _ _ (heap_alloc_new _ _)]; rfl, by rw [cell_of_row _ _ _ _ _ _ (heap_alloc_new _ _)]; rfl, by rw [cell_of_row _ _ _ _ _ _ (heap_alloc_new _ _)]; rfl, by rw [cell_of_row _ _ _ _ _ _ (heap_alloc_new _ _)]; rfl, by rw [cell_of_row _ _ _ _ _ _ (heap_alloc_new _ _)]; rfl, Up.alloc _ _⟩

set_option maxHeartbeats 400000 in
theorem admits_any (kind : Int) (limit span index count x now n : Nat) (hl : N64 limit) (hw : N64 now) (hn : N64 n) (w : World) :
    Calls Try.prog 11 #[Ow kind limit span index count x n, V now] w fun e w' => e = .returned (.bool (decide (WFits limit span index count now n))) ∧ Up w w' := by
  have k := wAdmit_any limit span index count now n hl hw hn
  generalize wIx limit span index count now n = I at *
  generalize wCt limit span index count now n = C at *
  generalize decide (WFits limit span index count now n) = o at *
  clear hl hw hn
  go_enter Try.func11, Try.ntmps11
  go_wp2_with fail
  refine (k _).mono ?_
  rintro e w1 ⟨rfl, rfl⟩
  go_wp2
  go_ret
  exact ⟨rfl, Up.alloc _ _⟩
end Go.Proofs.Ytdopbnmmcjofmaa
