/- The law WindowStarts returns true for every numbers, and changes nothing that was there. -/
import Derived.Test.YtdopbnmmcjofmaaWnLives
set_option linter.unusedVariables false
namespace Go.Proofs.Ytdopbnmmcjofmaa
open Go Go.RowKit

abbrev WIndexIs (span now q : Nat) : Prop := ∀ w, Calls Try.prog 14 #[V span, V now] w fun e w' => e = .returned (V q) ∧ w' = w
abbrev WStartIs (span i s : Nat) : Prop := ∀ w, Calls Try.prog 15 #[V span, V i] w fun e w' => e = .returned (V s) ∧ Up w w'

theorem starts_zero (now index : Nat) (hi : N64 index) (hw : N64 now) (w : World) :
    Calls Try.prog 6 #[.int .u64 0, V now, V index] w fun e w' => e = .returned (.bool true) ∧ Up w w' := by
  have k1 := Index_any 0 now hw
  have k2 := Start_any 0 index (by unfold N64; omega) hi
  rw [Nat.div_zero] at k1
  rw [show wStart 0 index = 0 by unfold wStart; rw [Nat.zero_mul]; rfl] at k2
  rw [show V 0 = Value.int .u64 0 from rfl] at *
  clear hi hw
  go_enter Try.func6, Try.ntmps6
  go_wp2_with fail
  refine (wawake_any _).mono ?_
  rintro e w1 ⟨rfl, u1⟩
  go_wp2_with fail
  refine (k1 _).mono ?_
  rintro e w2 ⟨rfl, rfl⟩
  go_wp2_with fail
  refine (k2 _).mono ?_
  rintro e w3 ⟨rfl, u3⟩
  go_wp2
  go_ret
  exact ⟨rfl, u1.trans u3⟩

set_option maxHeartbeats 1600000 in
theorem starts_some (span now index q L D S : Nat) (z1 : ((span : Int) == 0) = false) (k1 : WIndexIs span now q) (k2 : WStartIs span q L) (c1 : ¬ (now : Int) < (L : Int)) (d1 : IntKind.u64.wrap ((now : Int) - (L : Int)) = (D : Int)) (c2 : ¬ (span : Int) ≤ (D : Int))
    (k3 : WStartIs span index S)
    (hS : (((S : Int) == 18446744073709551615) = true ∧ ∃ m : Nat, (m : Int) ≤ (index : Int) ∧ (∀ w, Calls Try.prog 14 #[V span, .int .u64 18446744073709551615] w fun e w' => e = .returned (V m) ∧ w' = w)) ∨
      (((S : Int) == 18446744073709551615) = false ∧ WIndexIs span S index ∧ (((S : Int) == 0) = true ∨ (((S : Int) == 0) = false ∧ ∃ P J : Nat, IntKind.u64.wrap ((S : Int) - 1) = (P : Int) ∧ IntKind.u64.wrap ((index : Int) - 1) = (J : Int) ∧ WIndexIs span P J)))) (w : World) :
    Calls Try.prog 6 #[V span, V now, V index] w fun e w' => e = .returned (.bool true) ∧ Up w w' := by
  rcases hS with ⟨c3, m, c4, k4⟩ | ⟨c3, k4, c5 | ⟨c5, P, J, d2, d3, k5⟩⟩
  · go_enter Try.func6, Try.ntmps6
    go_wp2_with fail
    refine (wawake_any _).mono ?_
    rintro e w1 ⟨rfl, u1⟩
    go_wp2_with fail
    refine (k1 _).mono ?_
    rintro e w2 ⟨rfl, rfl⟩
    go_wp2_with fail
    refine (k2 _).mono ?_
    rintro e w3 ⟨rfl, u3⟩
    go_wp2_with fail
    refine (k3 _).mono ?_
    rintro e w4 ⟨rfl, u4⟩
    go_wp2_with fail
    refine (k4 _).mono ?_
    rintro e w5 ⟨rfl, rfl⟩
    go_wp2
    go_ret
    exact ⟨rfl, u1.trans (u3.trans u4)⟩
  · go_enter Try.func6, Try.ntmps6
    go_wp2_with fail
    refine (wawake_any _).mono ?_
    rintro e w1 ⟨rfl, u1⟩
    go_wp2_with fail
    refine (k1 _).mono ?_
    rintro e w2 ⟨rfl, rfl⟩
    go_wp2_with fail
    refine (k2 _).mono ?_
    rintro e w3 ⟨rfl, u3⟩
    go_wp2_with fail
    refine (k3 _).mono ?_
    rintro e w4 ⟨rfl, u4⟩
    go_wp2_with fail
    refine (k4 _).mono ?_
    rintro e w5 ⟨rfl, rfl⟩
    go_wp2
    go_ret
    exact ⟨rfl, u1.trans (u3.trans u4)⟩
  · go_enter Try.func6, Try.ntmps6
    go_wp2_with fail
    refine (wawake_any _).mono ?_
    rintro e w1 ⟨rfl, u1⟩
    go_wp2_with fail
    refine (k1 _).mono ?_
    rintro e w2 ⟨rfl, rfl⟩
    go_wp2_with fail
    refine (k2 _).mono ?_
    rintro e w3 ⟨rfl, u3⟩
    go_wp2_with fail
    refine (k3 _).mono ?_
    rintro e w4 ⟨rfl, u4⟩
    go_wp2_with fail
    refine (k4 _).mono ?_
    rintro e w5 ⟨rfl, rfl⟩
    go_wp2_with fail
    refine (k5 _).mono ?_
    rintro e w6 ⟨rfl, rfl⟩
    go_wp2
    go_ret
    exact ⟨rfl, u1.trans (u3.trans u4)⟩

theorem WindowStarts_any (span now index : Nat) (hs : N64 span) (hw : N64 now) (hi : N64 index) (w : World) :
    Calls Try.prog 6 #[V span, V now, V index] w fun e w' => e = .returned (.bool true) ∧ Up w w' := by
  by_cases h0 : span = 0
  · subst h0
    exact starts_zero now index hi hw w
  · have h1 : 1 ≤ span := by omega
    have hq := div_lt64 now span hw
    obtain ⟨a1, a2⟩ := (win_iff span now (now / span) h1).1 rfl
    have eL : wStart span (now / span) = span * (now / span) := if_pos (by unfold N64 at hw; omega)
    have k2 := Start_any span (now / span) hs hq
    have hSl := wstart_lt span index
    rw [eL] at k2
    refine starts_some span now index (now / span) (span * (now / span)) (now - span * (now / span)) (wStart span index) (wne_int span h0) (Index_any span now hw) k2 (by omega) (sub_w _ _ a1 hw) (by omega) (Start_any span index hs hi) ?_ w
    have eS : wStart span index = if span * index ≤ 18446744073709551615 then span * index else 18446744073709551615 := rfl
    by_cases hN : wStart span index = 18446744073709551615
    · left
      refine ⟨by rw [hN]; rfl, 18446744073709551615 / span, ?_, Index_any span 18446744073709551615 (by unfold N64; omega)⟩
      have hge : ¬ index < 18446744073709551615 / span := fun h => by
        have b := (win_iff span 18446744073709551615 (18446744073709551615 / span) h1).1 rfl
        have m := Nat.mul_le_mul_left span (show index + 1 ≤ 18446744073709551615 / span from h)
        rw [Nat.mul_add, Nat.mul_one] at m
        rw [eS] at hN
        split at hN <;> omega
      omega
    · right
      have hle : span * index ≤ 18446744073709551615 := by
        rcases Nat.lt_or_ge 18446744073709551615 (span * index) with h | h
        · exact absurd (eS.trans (if_neg (by omega))) hN
        · exact h
      rw [if_pos hle] at eS
      rw [eS] at hN ⊢
      have k4 := Index_any span (span * index) (by unfold N64; omega)
      rw [(win_iff span (span * index) index h1).2 ⟨Nat.le_refl _, by omega⟩] at k4
      refine ⟨by simp; omega, k4, ?_⟩
      by_cases hz : span * index = 0
      · left; rw [hz]; rfl
      · right
        have hi1 : 1 ≤ index := by
          rcases Nat.eq_zero_or_pos index with h | h
          · subst h; exact absurd (Nat.mul_zero span) hz
          · exact h
        have k5 := Index_any span (span * index - 1) (by unfold N64; omega)
        have e1 : span * (index - 1) + span = span * index := by
          rw [show span * index = span * (index - 1 + 1) by rw [Nat.sub_add_cancel hi1], Nat.mul_add, Nat.mul_one]
        rw [(win_iff span (span * index - 1) (index - 1) h1).2 ⟨by omega, by omega⟩] at k5
        exact ⟨wne_int _ hz, span * index - 1, index - 1, sub_w (span * index) 1 (by omega) (by omega), sub_w index 1 hi1 hi, k5⟩
end Go.Proofs.Ytdopbnmmcjofmaa
