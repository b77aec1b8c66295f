/- The law GcraLeast returns true for every numbers, and changes nothing that was there. -/
import Derived.Test.YtipbpppdifplbaaGcLives
set_option linter.unusedVariables false
namespace Go.Proofs.Ytipbpppdifplbaa
open Go Go.RowKit

/-- What yes answers at a time where the units are admitted, and where they aren't. -/
theorem yes_true {gap slack tat now n : Nat} (x y : Nat) (h : GFits gap slack tat now n) (hg : N64 gap) (hs : N64 slack) (ht : N64 tat) (hw : N64 now) (hn : N64 n) :
    ∀ w, Calls Try.prog 19 #[Ak gap slack tat x y, V now, V n] w fun e w' => e = .returned (.bool true) ∧ Up w w' := by
  intro w
  have k := yes_any gap slack tat x y now n hg hs ht hw hn w
  rw [decide_eq_true h] at k
  exact k
theorem yes_false {gap slack tat now n : Nat} (x y : Nat) (h : ¬ GFits gap slack tat now n) (hg : N64 gap) (hs : N64 slack) (ht : N64 tat) (hw : N64 now) (hn : N64 n) :
    ∀ w, Calls Try.prog 19 #[Ak gap slack tat x y, V now, V n] w fun e w' => e = .returned (.bool false) ∧ Up w w' := by
  intro w
  have k := yes_any gap slack tat x y now n hg hs ht hw hn w
  rw [decide_eq_false h] at k
  exact k

/-- yes answers false. -/
abbrev YesNo (gap slack tat now n x : Nat) : Prop := ∀ w, Calls Try.prog 19 #[Ak gap slack tat now n, V x, V n] w fun e w' => e = .returned (.bool false) ∧ Up w w'

set_option maxHeartbeats 3200000 in
theorem least_never (gap slack tat now n probe : Nat) (k1 : ∀ w, Calls Try.prog 13 #[V gap, V slack, V tat, V now, V n] w fun e w' => e = .returned (.int .u64 18446744073709551615) ∧ Up w w')
    (kn : YesNo gap slack tat now n now) (kp : (probe : Int) < (now : Int) ∨ ¬ (probe : Int) < (now : Int) ∧ YesNo gap slack tat now n probe) (kt : (tat : Int) < (now : Int) ∨ ¬ (tat : Int) < (now : Int) ∧ YesNo gap slack tat now n tat) (w : World) :
    Calls Try.prog 5 #[Ak gap slack tat now n, V probe] w fun e w' => e = .returned (.bool true) ∧ Up w w' := by
  rcases kp with c1 | ⟨c1, kp⟩ <;> rcases kt with c2 | ⟨c2, kt⟩
  · go_enter Try.func5, Try.ntmps5
    go_wp2_with fail
    refine (lives_any _).mono ?_
    rintro e w1 ⟨rfl, u1⟩
    obtain ⟨hc1, hf1⟩ := bcell u1
    have hz : w.heap.size < w1.heap.size := by have := u1.size; simp at this; omega
    go_wp2_with fail
    refine (k1 _).mono ?_
    rintro e w2 ⟨rfl, u2⟩
    obtain ⟨hc2, hf2⟩ := bcell u2
    have hz2 : w.heap.size < w2.heap.size := by have := u2.size; omega
    go_wp2_with fail
    refine (kn _).mono ?_
    rintro e w3 ⟨rfl, u3⟩
    obtain ⟨hc3, hf3⟩ := bcell u3
    have hz3 : w.heap.size < w3.heap.size := by have := u3.size; omega
    clear k1 kn
    go_wp2
    go_ret
    exact ⟨rfl, (Up.alloc _ _).trans (u1.trans (u2.trans u3))⟩
  · go_enter Try.func5, Try.ntmps5
    go_wp2_with fail
    refine (lives_any _).mono ?_
    rintro e w1 ⟨rfl, u1⟩
    obtain ⟨hc1, hf1⟩ := bcell u1
    have hz : w.heap.size < w1.heap.size := by have := u1.size; simp at this; omega
    go_wp2_with fail
    refine (k1 _).mono ?_
    rintro e w2 ⟨rfl, u2⟩
    obtain ⟨hc2, hf2⟩ := bcell u2
    have hz2 : w.heap.size < w2.heap.size := by have := u2.size; omega
    go_wp2_with fail
    refine (kn _).mono ?_
    rintro e w3 ⟨rfl, u3⟩
    obtain ⟨hc3, hf3⟩ := bcell u3
    have hz3 : w.heap.size < w3.heap.size := by have := u3.size; omega
    clear k1 kn
    go_wp2_with fail
    refine (kt _).mono ?_
    rintro e w4 ⟨rfl, u4⟩
    go_wp2
    go_ret
    exact ⟨rfl, (Up.alloc _ _).trans (u1.trans (u2.trans (u3.trans u4)))⟩
  · go_enter Try.func5, Try.ntmps5
    go_wp2_with fail
    refine (lives_any _).mono ?_
    rintro e w1 ⟨rfl, u1⟩
    obtain ⟨hc1, hf1⟩ := bcell u1
    have hz : w.heap.size < w1.heap.size := by have := u1.size; simp at this; omega
    go_wp2_with fail
    refine (k1 _).mono ?_
    rintro e w2 ⟨rfl, u2⟩
    obtain ⟨hc2, hf2⟩ := bcell u2
    have hz2 : w.heap.size < w2.heap.size := by have := u2.size; omega
    go_wp2_with fail
    refine (kn _).mono ?_
    rintro e w3 ⟨rfl, u3⟩
    obtain ⟨hc3, hf3⟩ := bcell u3
    have hz3 : w.heap.size < w3.heap.size := by have := u3.size; omega
    clear k1 kn
    go_wp2_with fail
    refine (kp _).mono ?_
    rintro e w4 ⟨rfl, u4⟩
    obtain ⟨hc4, hf4⟩ := bcell u4
    have hz4 : w.heap.size < w4.heap.size := by have := u4.size; omega
    go_wp2
    go_ret
    exact ⟨rfl, (Up.alloc _ _).trans (u1.trans (u2.trans (u3.trans u4)))⟩
  · go_enter Try.func5, Try.ntmps5
    go_wp2_with fail
    refine (lives_any _).mono ?_
    rintro e w1 ⟨rfl, u1⟩
    obtain ⟨hc1, hf1⟩ := bcell u1
    have hz : w.heap.size < w1.heap.size := by have := u1.size; simp at this; omega
    go_wp2_with fail
    refine (k1 _).mono ?_
    rintro e w2 ⟨rfl, u2⟩
    obtain ⟨hc2, hf2⟩ := bcell u2
    have hz2 : w.heap.size < w2.heap.size := by have := u2.size; omega
    go_wp2_with fail
    refine (kn _).mono ?_
    rintro e w3 ⟨rfl, u3⟩
    obtain ⟨hc3, hf3⟩ := bcell u3
    have hz3 : w.heap.size < w3.heap.size := by have := u3.size; omega
    clear k1 kn
    go_wp2_with fail
    refine (kp _).mono ?_
    rintro e w4 ⟨rfl, u4⟩
    obtain ⟨hc4, hf4⟩ := bcell u4
    have hz4 : w.heap.size < w4.heap.size := by have := u4.size; omega
    go_wp2_with fail
    refine (kt _).mono ?_
    rintro e w5 ⟨rfl, u5⟩
    go_wp2
    go_ret
    exact ⟨rfl, (Up.alloc _ _).trans (u1.trans (u2.trans (u3.trans (u4.trans u5))))⟩

set_option maxHeartbeats 3200000 in
/-- There is a time R: the least one. -/
theorem least_time (gap slack tat now n probe R : Nat) (k1 : ∀ w, Calls Try.prog 13 #[V gap, V slack, V tat, V now, V n] w fun e w' => e = .returned (V R) ∧ Up w w')
    (c0 : ((R : Int) == 18446744073709551615) = false) (c1 : ¬ (R : Int) < (now : Int))
    (kR : ∀ w, Calls Try.prog 19 #[Ak gap slack tat now n, V R, V n] w fun e w' => e = .returned (.bool true) ∧ Up w w')
    (kp : (probe : Int) < (now : Int) ∨ (¬ (probe : Int) < (now : Int) ∧ ¬ (probe : Int) < (R : Int)) ∨ (¬ (probe : Int) < (now : Int) ∧ (probe : Int) < (R : Int) ∧ YesNo gap slack tat now n probe))
    (kl : R = now ∨ (((R : Int) == (now : Int)) = false ∧ ∃ L, IntKind.u64.wrap ((R : Int) - 1) = ((L : Nat) : Int) ∧ YesNo gap slack tat now n L)) (w : World) :
    Calls Try.prog 5 #[Ak gap slack tat now n, V probe] w fun e w' => e = .returned (.bool true) ∧ Up w w' := by
  rcases kl with rfl | ⟨c3, L, w3, kl⟩
  · rcases kp with c2 | ⟨c2, c4⟩ | ⟨c2, c4, kp⟩
    · go_enter Try.func5, Try.ntmps5
      go_wp2_with fail
      refine (lives_any _).mono ?_
      rintro e w1 ⟨rfl, u1⟩
      obtain ⟨hc1, hf1⟩ := bcell u1
      have hz : w.heap.size < w1.heap.size := by have := u1.size; simp at this; omega
      go_wp2_with fail
      refine (k1 _).mono ?_
      rintro e w2 ⟨rfl, u2⟩
      obtain ⟨hc2, hf2⟩ := bcell u2
      have hz2 : w.heap.size < w2.heap.size := by have := u2.size; omega
      go_wp2_with fail
      refine (kR _).mono ?_
      rintro e w3 ⟨rfl, u3⟩
      obtain ⟨hc3, hf3⟩ := bcell u3
      have hz3 : w.heap.size < w3.heap.size := by have := u3.size; omega
      clear k1 kR
      go_wp2
      go_ret
      exact ⟨rfl, (Up.alloc _ _).trans (u1.trans (u2.trans (u3)))⟩
    · go_enter Try.func5, Try.ntmps5
      go_wp2_with fail
      refine (lives_any _).mono ?_
      rintro e w1 ⟨rfl, u1⟩
      obtain ⟨hc1, hf1⟩ := bcell u1
      have hz : w.heap.size < w1.heap.size := by have := u1.size; simp at this; omega
      go_wp2_with fail
      refine (k1 _).mono ?_
      rintro e w2 ⟨rfl, u2⟩
      obtain ⟨hc2, hf2⟩ := bcell u2
      have hz2 : w.heap.size < w2.heap.size := by have := u2.size; omega
      go_wp2_with fail
      refine (kR _).mono ?_
      rintro e w3 ⟨rfl, u3⟩
      obtain ⟨hc3, hf3⟩ := bcell u3
      have hz3 : w.heap.size < w3.heap.size := by have := u3.size; omega
      clear k1 kR
      go_wp2
      go_ret
      exact ⟨rfl, (Up.alloc _ _).trans (u1.trans (u2.trans (u3)))⟩
    · omega
  · rcases kp with c2 | ⟨c2, c4⟩ | ⟨c2, c4, kp⟩
    · go_enter Try.func5, Try.ntmps5
      go_wp2_with fail
      refine (lives_any _).mono ?_
      rintro e w1 ⟨rfl, u1⟩
      obtain ⟨hc1, hf1⟩ := bcell u1
      have hz : w.heap.size < w1.heap.size := by have := u1.size; simp at this; omega
      go_wp2_with fail
      refine (k1 _).mono ?_
      rintro e w2 ⟨rfl, u2⟩
      obtain ⟨hc2, hf2⟩ := bcell u2
      have hz2 : w.heap.size < w2.heap.size := by have := u2.size; omega
      go_wp2_with fail
      refine (kR _).mono ?_
      rintro e w3 ⟨rfl, u3⟩
      obtain ⟨hc3, hf3⟩ := bcell u3
      have hz3 : w.heap.size < w3.heap.size := by have := u3.size; omega
      clear k1 kR
      go_wp2_with fail
      refine (kl _).mono ?_
      rintro e w4 ⟨rfl, u4⟩
      go_wp2
      go_ret
      exact ⟨rfl, (Up.alloc _ _).trans (u1.trans (u2.trans (u3.trans (u4))))⟩
    · go_enter Try.func5, Try.ntmps5
      go_wp2_with fail
      refine (lives_any _).mono ?_
      rintro e w1 ⟨rfl, u1⟩
      obtain ⟨hc1, hf1⟩ := bcell u1
      have hz : w.heap.size < w1.heap.size := by have := u1.size; simp at this; omega
      go_wp2_with fail
      refine (k1 _).mono ?_
      rintro e w2 ⟨rfl, u2⟩
      obtain ⟨hc2, hf2⟩ := bcell u2
      have hz2 : w.heap.size < w2.heap.size := by have := u2.size; omega
      go_wp2_with fail
      refine (kR _).mono ?_
      rintro e w3 ⟨rfl, u3⟩
      obtain ⟨hc3, hf3⟩ := bcell u3
      have hz3 : w.heap.size < w3.heap.size := by have := u3.size; omega
      clear k1 kR
      go_wp2_with fail
      refine (kl _).mono ?_
      rintro e w4 ⟨rfl, u4⟩
      go_wp2
      go_ret
      exact ⟨rfl, (Up.alloc _ _).trans (u1.trans (u2.trans (u3.trans (u4))))⟩
    · go_enter Try.func5, Try.ntmps5
      go_wp2_with fail
      refine (lives_any _).mono ?_
      rintro e w1 ⟨rfl, u1⟩
      obtain ⟨hc1, hf1⟩ := bcell u1
      have hz : w.heap.size < w1.heap.size := by have := u1.size; simp at this; omega
      go_wp2_with fail
      refine (k1 _).mono ?_
      rintro e w2 ⟨rfl, u2⟩
      obtain ⟨hc2, hf2⟩ := bcell u2
      have hz2 : w.heap.size < w2.heap.size := by have := u2.size; omega
      go_wp2_with fail
      refine (kR _).mono ?_
      rintro e w3 ⟨rfl, u3⟩
      obtain ⟨hc3, hf3⟩ := bcell u3
      have hz3 : w.heap.size < w3.heap.size := by have := u3.size; omega
      clear k1 kR
      go_wp2_with fail
      refine (kp _).mono ?_
      rintro e w4 ⟨rfl, u4⟩
      obtain ⟨hc4, hf4⟩ := bcell u4
      have hz4 : w.heap.size < w4.heap.size := by have := u4.size; omega
      go_wp2_with fail
      refine (kl _).mono ?_
      rintro e w5 ⟨rfl, u5⟩
      go_wp2
      go_ret
      exact ⟨rfl, (Up.alloc _ _).trans (u1.trans (u2.trans (u3.trans (u4.trans (u5)))))⟩

theorem GcraLeast_any (gap slack tat now n probe : Nat) (hg : N64 gap) (hs : N64 slack) (ht : N64 tat) (hw : N64 now) (hn : N64 n) (hp : N64 probe) (w : World) :
    Calls Try.prog 5 #[Ak gap slack tat now n, V probe] w fun e w' => e = .returned (.bool true) ∧ Up w w' := by
  have k1 := Retry_any gap slack tat now n hg hs ht hw hn
  have no : ∀ x, N64 x → ¬ GFits gap slack tat x n → YesNo gap slack tat now n x := fun x hx h => yes_false now n h hg hs ht hx hn
  by_cases h : n = 0 ∨ gap = 0 ∨ slack < (n - 1) * gap ∨ 18446744073709551615 < gBase tat now + n * gap
  · have hall := retry_never h
    rw [show gRetry gap slack tat now n = 18446744073709551615 from if_pos h] at k1
    refine least_never gap slack tat now n probe k1 (no now hw (hall now (Nat.le_refl _))) ?_ ?_ w
    · rcases Nat.lt_or_ge probe now with c | c
      · exact Or.inl (by omega)
      · exact Or.inr ⟨by omega, no probe hp (hall probe c)⟩
    · rcases Nat.lt_or_ge tat now with c | c
      · exact Or.inl (by omega)
      · exact Or.inr ⟨by omega, no tat ht (hall tat c)⟩
  · obtain ⟨r1, r2, r3, r4⟩ := retry_least h
    generalize gRetry gap slack tat now n = R at *
    have hR : N64 R := by unfold N64; omega
    refine least_time gap slack tat now n probe R k1 (by simp; omega) (by omega) (yes_true now n r3 hg hs ht hR hn) ?_ ?_ w
    · rcases Nat.lt_or_ge probe now with c | c
      · exact Or.inl (by omega)
      · rcases Nat.lt_or_ge probe R with d | d
        · exact Or.inr (Or.inr ⟨by omega, by omega, no probe hp (r4 probe c d)⟩)
        · exact Or.inr (Or.inl ⟨by omega, by omega⟩)
    · by_cases c : R = now
      · exact Or.inl c
      · exact Or.inr ⟨by simp; omega, R - 1, by rw [IntKind.wrap_u64]; unfold N64 at hR; omega, no (R - 1) (by unfold N64 at *; omega) (r4 (R - 1) (by omega) (by omega))⟩
end Go.Proofs.Ytipbpppdifplbaa
