/- gcra: the law's functions lives and yes. -/
import Derived.Test.YtipbpppdifplbaaGcCalls
set_option linter.unusedVariables false
namespace Go.Proofs.Ytipbpppdifplbaa
open Go Go.RowKit

theorem live_admit (w : World) : Calls Try.prog 12 #[.int .u64 10, .int .u64 0, .int .u64 0, .int .u64 100, .int .u64 1] w fun e w' => e = .returned (.tuple #[.int .u64 110, .bool true]) ∧ Up w w' := by
  have h : GFits 10 0 0 100 1 := by decide
  have k := Admit_any 10 0 0 100 1 (by unfold N64; omega) (by unfold N64; omega) (by unfold N64; omega) (by unfold N64; omega) (by unfold N64; omega) w
  rw [show gTat 10 0 0 100 1 = 110 from by rw [gTat, if_pos h]; rfl, decide_eq_true h] at k
  exact k
theorem live_admit' (w : World) : Calls Try.prog 12 #[.int .u64 10, .int .u64 0, .int .u64 110, .int .u64 105, .int .u64 1] w fun e w' => e = .returned (.tuple #[.int .u64 110, .bool false]) ∧ Up w w' := by
  have h : ¬ GFits 10 0 110 105 1 := by decide
  have k := Admit_any 10 0 110 105 1 (by unfold N64; omega) (by unfold N64; omega) (by unfold N64; omega) (by unfold N64; omega) (by unfold N64; omega) w
  rw [show gTat 10 0 110 105 1 = 110 from if_neg h, decide_eq_false h] at k
  exact k
theorem live_retry (w : World) : Calls Try.prog 13 #[.int .u64 10, .int .u64 0, .int .u64 110, .int .u64 105, .int .u64 1] w fun e w' => e = .returned (.int .u64 110) ∧ Up w w' :=
  Retry_any 10 0 110 105 1 (by unfold N64; omega) (by unfold N64; omega) (by unfold N64; omega) (by unfold N64; omega) (by unfold N64; omega) w
theorem live_delay (w : World) : Calls Try.prog 17 #[.int .u64 10, .int .u64 0, .int .u64 110, .int .u64 105] w fun e w' => e = .returned (.int .u64 5) ∧ Up w w' :=
  Delay_any 10 0 110 105 (by unfold N64; omega) (by unfold N64; omega) (by unfold N64; omega) (by unfold N64; omega) w
theorem live_burst (w : World) : Calls Try.prog 15 #[.int .u64 10, .int .u64 20, .int .u64 0, .int .u64 100] w fun e w' => e = .returned (.int .u64 3) ∧ w' = w :=
  Burst_any 10 20 0 100 (by unfold N64; omega) (by unfold N64; omega) (by unfold N64; omega) (by unfold N64; omega) w

set_option maxHeartbeats 800000 in
theorem lives_any (w : World) : Calls Try.prog 10 #[] w fun e w' => e = .returned (.bool true) ∧ Up w w' := by
  go_enter Try.func10, Try.ntmps10
  go_wp2_with fail
  refine (live_admit _).mono ?_
  rintro e w1 ⟨rfl, u1⟩
  go_wp2_with fail
  refine (live_admit' _).mono ?_
  rintro e w2 ⟨rfl, u2⟩
  go_wp2_with fail
  refine (live_retry _).mono ?_
  rintro e w3 ⟨rfl, u3⟩
  go_wp2_with fail
  refine (live_delay _).mono ?_
  rintro e w4 ⟨rfl, u4⟩
  go_wp2_with fail
  refine (live_burst _).mono ?_
  rintro e w5 ⟨rfl, rfl⟩
  go_wp2
  go_ret
  exact ⟨rfl, u1.trans (u2.trans (u3.trans u4))⟩

/-- An Ask as a value. -/
abbrev Ak (gap slack tat now n : Nat) : Value := .agg #[V gap, V slack, V tat, V now, V n]

theorem fits_above {gap slack tat now n : Nat} (h : GFits gap slack tat now n) : tat ≤ gTat gap slack tat now n ∧ now < gTat gap slack tat now n := by
  have hb := gBase_max tat now
  have hp := pred_mul n gap h.1
  have h2 := h.2.1
  rw [gTat, if_pos h]
  omega

theorem yes_any (gap slack tat x y now n : Nat) (hg : N64 gap) (hs : N64 slack) (ht : N64 tat) (hw : N64 now) (hn : N64 n) (w : World) :
    Calls Try.prog 19 #[Ak gap slack tat x y, V now, V n] w fun e w' => e = .returned (.bool (decide (GFits gap slack tat now n))) ∧ Up w w' := by
  have k1 := Admit_any gap slack tat now n hg hs ht hw hn
  by_cases h : GFits gap slack tat now n
  · obtain ⟨a1, a2⟩ := fits_above h
    rw [decide_eq_true h] at k1 ⊢
    obtain ⟨T, hT⟩ : ∃ T, gTat gap slack tat now n = T := ⟨_, rfl⟩
    rw [hT] at k1 a1 a2
    have b1 : (tat : Int) ≤ (T : Int) := by omega
    have b2 : (now : Int) < (T : Int) := by omega
    clear hT h hg hs ht hw hn
    go_enter Try.func19, Try.ntmps19
    go_wp2_with fail
    refine (k1 _).mono ?_
    rintro e w1 ⟨rfl, u1⟩
    obtain ⟨hc, hf⟩ := bcell u1
    have hz : w.heap.size < w1.heap.size := by have := u1.size; simp at this; omega
    go_wp2
    go_ret
    exact ⟨rfl, (Up.alloc _ _).trans u1⟩
  · rw [decide_eq_false h] at k1 ⊢
    obtain ⟨T, hT⟩ : ∃ T, gTat gap slack tat now n = T := ⟨_, rfl⟩
    rw [hT] at k1
    clear hT h hg hs ht hw hn
    go_enter Try.func19, Try.ntmps19
    go_wp2_with fail
    refine (k1 _).mono ?_
    rintro e w1 ⟨rfl, u1⟩
    go_wp2
    go_ret
    exact ⟨rfl, (Up.alloc _ _).trans u1⟩
end Go.Proofs.Ytipbpppdifplbaa
