/- The law GcraSplits returns true for every numbers, and changes nothing that was there. -/
import Derived.Test.YtipbpppdifplbaaGcLives
set_option linter.unusedVariables false
namespace Go.Proofs.Ytipbpppdifplbaa
open Go Go.RowKit

/-- What the three calls answer. -/
theorem splits_cases {gap slack tat now n m T1 T2 T3 : Nat} {o1 o2 o3 : Bool} (hn : 1 ≤ n) (hm : 1 ≤ m)
    (h1 : gTat gap slack tat now (n + m) = T1) (h2 : gTat gap slack tat now n = T2) (h3 : gTat gap slack T2 now m = T3)
    (g1 : decide (GFits gap slack tat now (n + m)) = o1) (g2 : decide (GFits gap slack tat now n) = o2) (g3 : decide (GFits gap slack T2 now m) = o3) :
    (o1 = true ∧ o2 = true ∧ o3 = true ∧ T3 = T1) ∨ (o1 = false ∧ T1 = tat ∧ o2 = false) ∨ (o1 = false ∧ T1 = tat ∧ o2 = true ∧ o3 = false) := by
  have hs := fits_splits (gap := gap) (slack := slack) (tat := tat) (now := now) hn hm
  have hb := base_again tat now (n * gap)
  have e1 : (n + m) * gap = n * gap + m * gap := Nat.add_mul ..
  by_cases f1 : GFits gap slack tat now (n + m)
  · obtain ⟨f2, f3⟩ := hs.1 f1
    have e2 : T2 = gBase tat now + n * gap := by rw [← h2, gTat, if_pos f2]
    rw [← e2] at f3 hb
    left
    refine ⟨by rw [← g1]; exact decide_eq_true f1, by rw [← g2]; exact decide_eq_true f2, by rw [← g3]; exact decide_eq_true f3, ?_⟩
    rw [← h1, ← h3, gTat, gTat, if_pos f1, if_pos f3, e1, hb, e2]
    omega
  · have e1 : T1 = tat := by rw [← h1, gTat, if_neg f1]
    right
    by_cases f2 : GFits gap slack tat now n
    · have e2 : T2 = gBase tat now + n * gap := by rw [← h2, gTat, if_pos f2]
      have f3 : ¬ GFits gap slack T2 now m := fun h => f1 (hs.2 ⟨f2, e2 ▸ h⟩)
      right
      exact ⟨by rw [← g1]; exact decide_eq_false f1, e1, by rw [← g2]; exact decide_eq_true f2, by rw [← g3]; exact decide_eq_false f3⟩
    · left
      exact ⟨by rw [← g1]; exact decide_eq_false f1, e1, by rw [← g2]; exact decide_eq_false f2⟩

set_option maxHeartbeats 1600000 in
theorem splits_zero (gap slack tat now n m : Nat) (hn : N64 n) (hm : N64 m) (h : n = 0 ∨ m = 0 ∨ 18446744073709551615 - m < n) (w : World) :
    Calls Try.prog 7 #[Ak gap slack tat now n, V m] w fun e w' => e = .returned (.bool true) ∧ Up w w' := by
  by_cases h1 : n = 0
  · subst h1
    clear h
    go_enter Try.func7, Try.ntmps7
    go_wp2_with fail
    refine (lives_any _).mono ?_
    rintro e w1 ⟨rfl, u1⟩
    obtain ⟨hc, hf⟩ := bcell u1
    have hz : w.heap.size < w1.heap.size := by have := u1.size; simp at this; omega
    go_wp2
    go_ret
    exact ⟨rfl, (Up.alloc _ _).trans u1⟩
  · have z1 := ne_int n h1
    by_cases h2 : m = 0
    · subst h2
      clear h h1
      go_enter Try.func7, Try.ntmps7
      go_wp2_with fail
      refine (lives_any _).mono ?_
      rintro e w1 ⟨rfl, u1⟩
      obtain ⟨hc, hf⟩ := bcell u1
      have hz : w.heap.size < w1.heap.size := by have := u1.size; simp at this; omega
      go_wp2
      go_ret
      exact ⟨rfl, (Up.alloc _ _).trans u1⟩
    · have z2 := ne_int m h2
      have w1 : IntKind.u64.wrap (18446744073709551615 - (m : Int)) = ((18446744073709551615 - m : Nat) : Int) := sub_n 18446744073709551615 m (by unfold N64 at *; omega) (by omega)
      have c1 : ((18446744073709551615 - m : Nat) : Int) < (n : Int) := by omega
      obtain ⟨D, hD⟩ : ∃ D, 18446744073709551615 - m = D := ⟨_, rfl⟩
      rw [hD] at w1 c1
      clear h h1 h2 hD hn hm
      go_enter Try.func7, Try.ntmps7
      go_wp2_with fail
      refine (lives_any _).mono ?_
      rintro e w1 ⟨rfl, u1⟩
      obtain ⟨hc, hf⟩ := bcell u1
      have hz : w.heap.size < w1.heap.size := by have := u1.size; simp at this; omega
      go_wp2
      go_ret
      exact ⟨rfl, (Up.alloc _ _).trans u1⟩

set_option maxHeartbeats 3200000 in
theorem GcraSplits_any (gap slack tat now n m : Nat) (hg : N64 gap) (hs : N64 slack) (ht : N64 tat) (hw : N64 now) (hn : N64 n) (hm : N64 m) (w : World) :
    Calls Try.prog 7 #[Ak gap slack tat now n, V m] w fun e w' => e = .returned (.bool true) ∧ Up w w' := by
  by_cases h : n = 0 ∨ m = 0 ∨ 18446744073709551615 - m < n
  · exact splits_zero gap slack tat now n m hn hm h w
  · have hnm : N64 (n + m) := by unfold N64 at *; omega
    have z1 := ne_int n (by omega)
    have z2 := ne_int m (by omega)
    have w1 : IntKind.u64.wrap (18446744073709551615 - (m : Int)) = ((18446744073709551615 - m : Nat) : Int) := sub_n 18446744073709551615 m (by unfold N64 at *; omega) (by omega)
    have c1 : ¬ ((18446744073709551615 - m : Nat) : Int) < (n : Int) := by omega
    have w2 : IntKind.u64.wrap ((n : Int) + (m : Int)) = ((n + m : Nat) : Int) := by rw [add_n]; exact wrap_n _ hnm
    have k1 := Admit_any gap slack tat now (n + m) hg hs ht hw hnm
    have k2 := Admit_any gap slack tat now n hg hs ht hw hn
    have tl : N64 (gTat gap slack tat now n) := by
      unfold gTat N64 at *
      split
      · rename_i h; have := h.2.2.2; omega
      · exact ht
    have k3 := Admit_any gap slack (gTat gap slack tat now n) now m hg hs tl hw hm
    obtain ⟨T2, e2⟩ : ∃ T, gTat gap slack tat now n = T := ⟨_, rfl⟩
    rw [e2] at k2 k3
    obtain ⟨T1, e1⟩ : ∃ T, gTat gap slack tat now (n + m) = T := ⟨_, rfl⟩
    obtain ⟨T3, e3⟩ : ∃ T, gTat gap slack T2 now m = T := ⟨_, rfl⟩
    obtain ⟨o1, g1⟩ : ∃ T, decide (GFits gap slack tat now (n + m)) = T := ⟨_, rfl⟩
    obtain ⟨o2, g2⟩ : ∃ T, decide (GFits gap slack tat now n) = T := ⟨_, rfl⟩
    obtain ⟨o3, g3⟩ : ∃ T, decide (GFits gap slack T2 now m) = T := ⟨_, rfl⟩
    have hcs := splits_cases (by omega) (by omega) e1 e2 e3 g1 g2 g3
    rw [e1, g1] at k1
    rw [g2] at k2
    rw [e3, g3] at k3
    obtain ⟨D, hD⟩ : ∃ D, 18446744073709551615 - m = D := ⟨_, rfl⟩
    rw [hD] at w1 c1
    obtain ⟨S, hS⟩ : ∃ S, n + m = S := ⟨_, rfl⟩
    rw [hS] at w2 k1
    clear e1 e2 e3 g1 g2 g3 tl hg hs ht hw hn hm h hnm hD hS
    rcases hcs with ⟨rfl, rfl, rfl, rfl⟩ | ⟨rfl, rfl, rfl⟩ | ⟨rfl, rfl, rfl, rfl⟩
    all_goals
      go_enter Try.func7, Try.ntmps7
      go_wp2_with fail
      refine (lives_any _).mono ?_
      rintro e w1 ⟨rfl, u1⟩
      obtain ⟨hc1, hf1⟩ := bcell u1
      have hz : w.heap.size < w1.heap.size := by have := u1.size; simp at this; omega
      go_wp2_with fail
      refine (k1 _).mono ?_
      rintro e w2 ⟨rfl, u2⟩
      obtain ⟨hc2, hf2⟩ := bcell u2
      have hz2 : w.heap.size < w2.heap.size := by have := u2.size; omega
      go_wp2_with fail
      refine (k2 _).mono ?_
      rintro e w3 ⟨rfl, u3⟩
      obtain ⟨hc3, hf3⟩ := bcell u3
      have hz3 : w.heap.size < w3.heap.size := by have := u3.size; omega
      go_wp2_with fail
      refine (k3 _).mono ?_
      rintro e w4 ⟨rfl, u4⟩
      obtain ⟨hc4, hf4⟩ := bcell u4
      have hz4 : w.heap.size < w4.heap.size := by have := u4.size; omega
      clear k1 k2 k3
      go_wp2
      go_ret
      exact ⟨rfl, (Up.alloc _ _).trans (u1.trans (u2.trans (u3.trans u4)))⟩
end Go.Proofs.Ytipbpppdifplbaa
