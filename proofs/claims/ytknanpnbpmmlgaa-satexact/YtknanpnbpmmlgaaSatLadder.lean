/- The law SatLadder returns true for every two numbers, and changes nothing that was there. -/
import Derived.Test.YtknanpnbpmmlgaaSatDivides
set_option linter.unusedVariables false
namespace Go.Proofs.Ytknanpnbpmmlgaa
open Go Go.RowKit

/-- What Narrow answers of a number: the number, or 0; and whether it fits. -/
theorem Narrow_any (n : Nat) : ∃ (s : Nat) (ok : Bool), (∀ w, Calls Try.prog 12 #[Wd n] w fun e w' => e = .returned (.tuple #[V s, .bool ok]) ∧ Up w w') ∧ (n < 18446744073709551616 ∧ ok = true ∧ s = n ∨ 18446744073709551616 ≤ n ∧ ok = false ∧ s = 0) := by
  by_cases h : n < 18446744073709551616
  · exact ⟨n, true, Narrow_fits n h, Or.inl ⟨h, rfl, rfl⟩⟩
  · exact ⟨0, false, Narrow_not n (by omega), Or.inr ⟨by omega, rfl, rfl⟩⟩

theorem cmp_neg (a b : Nat) : (a < b ∧ cmpN a b = -1) ∨ (¬ (a : Int) < (b : Int) ∧ ∃ c : Int, cmpN a b = c ∧ 0 ≤ c ∧ c ≤ 1) := by
  unfold cmpN
  by_cases h : a < b
  · left; exact ⟨h, if_pos h⟩
  · right
    refine ⟨by omega, _, rfl, ?_, ?_⟩ <;> (rw [if_neg h]; split <;> omega)

set_option maxHeartbeats 3200000 in
theorem SatLadder_any (a b : Nat) (ha : N64 a) (hb : N64 b) (w : World) : Calls Try.prog 5 #[V a, V b] w fun e w' => e = .returned (.bool true) ∧ Up w w' := by
  have ka := fun w => Of_any a ha w
  have kb := fun w => Of_any b hb w
  have wa : N128 a := by unfold N64 N128 at *; omega
  have wb : N128 b := by unfold N64 N128 at *; omega
  have k1 := fun w => Plus_any a b wa wb w
  rw [plus_small a b (by unfold N64 N128 at *; omega)] at k1
  have k2 := fun w => Product_any a b ha hb w
  have k3 := fun w => Minus_any a b wa wb w
  have k4 := fun w => Narrow_fits (minusN a b) (by unfold minusN N64 at *; omega) w
  have k5 := fun w => Add_any a b ha hb w
  have k6 := fun w => Mul_any a b ha hb w
  have k7 := fun w => Sub_any a b ha w
  have k8 := fun w => Cmp_any a b w
  have eS : addN a b = if a + b < 18446744073709551616 then a + b else 18446744073709551615 := rfl
  have eP : mulN64 a b = if a * b < 18446744073709551616 then a * b else 18446744073709551615 := rfl
  obtain ⟨s, ok1, kS, hS⟩ := Narrow_any (a + b)
  obtain ⟨p, ok2, kP, hP⟩ := Narrow_any (a * b)
  have hS' : (ok1 = true ∧ addN a b = s) ∨ (ok1 = false ∧ (addN a b : Int) = 18446744073709551615) := by
    rcases hS with ⟨h, h1, h2⟩ | ⟨h, h1, h2⟩
    · left; exact ⟨h1, by rw [eS, if_pos h, h2]⟩
    · right; exact ⟨h1, by rw [eS, if_neg (by omega)]; rfl⟩
  have hP' : (ok2 = true ∧ mulN64 a b = p) ∨ (ok2 = false ∧ (mulN64 a b : Int) = 18446744073709551615) := by
    rcases hP with ⟨h, h1, h2⟩ | ⟨h, h1, h2⟩
    · left; exact ⟨h1, by rw [eP, if_pos h, h2]⟩
    · right; exact ⟨h1, by rw [eP, if_neg (by omega)]; rfl⟩
  have hC := cmp_neg a b
  have eM : minusN a b = a - b := rfl
  rw [eM] at k3 k4
  obtain ⟨X, hX⟩ : ∃ X, a + b = X := ⟨_, rfl⟩
  rw [hX] at k1 kS
  obtain ⟨Y, hY⟩ : ∃ Y, a * b = Y := ⟨_, rfl⟩
  rw [hY] at k2 kP
  obtain ⟨D, hD⟩ : ∃ D, a - b = D := ⟨_, rfl⟩
  rw [hD] at k3 k4 k7
  obtain ⟨S, hSS⟩ : ∃ S, addN a b = S := ⟨_, rfl⟩
  rw [hSS] at k5 hS'
  obtain ⟨P, hPP⟩ : ∃ P, mulN64 a b = P := ⟨_, rfl⟩
  rw [hPP] at k6 hP'
  obtain ⟨C, hCC⟩ : ∃ C, cmpN a b = C := ⟨_, rfl⟩
  rw [hCC] at k8 hC
  clear hS hP eS eP eM hX hY hD hSS hPP hCC ha hb wa wb
  have hfin : (decide (a < b) == decide (C < 0)) = true := by
    rcases hC with ⟨h1, h2⟩ | ⟨h1, c, rfl, h2, h3⟩
    · rw [decide_eq_true h1, decide_eq_true (by omega)]; rfl
    · rw [decide_eq_false (by omega), decide_eq_false (by omega)]; rfl
  clear hC
  rcases hS' with ⟨rfl, rfl⟩ | ⟨rfl, hS1⟩ <;> rcases hP' with ⟨rfl, rfl⟩ | ⟨rfl, hP1⟩
  all_goals
    go_enter Try.func5, Try.ntmps5
    go_wp2_with fail
    refine (awake_any _).mono ?_
    rintro e w1 ⟨rfl, u1⟩
    go_wp2_with fail
    refine (ka _).mono ?_
    rintro e w2 ⟨rfl, u2⟩
    go_wp2_with fail
    refine (kb _).mono ?_
    rintro e w3 ⟨rfl, u3⟩
    go_wp2_with fail
    refine (k1 _).mono ?_
    rintro e w4 ⟨rfl, u4⟩
    go_wp2_with fail
    refine (kS _).mono ?_
    rintro e w5 ⟨rfl, u5⟩
    go_wp2_with fail
    refine (k2 _).mono ?_
    rintro e w6 ⟨rfl, u6⟩
    go_wp2_with fail
    refine (kP _).mono ?_
    rintro e w7 ⟨rfl, u7⟩
    go_wp2_with fail
    refine (ka _).mono ?_
    rintro e w8 ⟨rfl, u8⟩
    go_wp2_with fail
    refine (kb _).mono ?_
    rintro e w9 ⟨rfl, u9⟩
    go_wp2_with fail
    refine (k3 _).mono ?_
    rintro e w10 ⟨rfl, u10⟩
    go_wp2_with fail
    refine (k4 _).mono ?_
    rintro e w11 ⟨rfl, u11⟩
    go_wp2_with fail
    refine (k5 _).mono ?_
    rintro e w12 ⟨rfl, rfl⟩
    go_wp2_with fail
    refine (k6 _).mono ?_
    rintro e w13 ⟨rfl, u13⟩
    go_wp2_with fail
    refine (k7 _).mono ?_
    rintro e w14 ⟨rfl, rfl⟩
    go_wp2_with fail
    refine (ka _).mono ?_
    rintro e w15 ⟨rfl, u15⟩
    go_wp2_with fail
    refine (kb _).mono ?_
    rintro e w16 ⟨rfl, u16⟩
    go_wp2_with fail
    refine (k8 _).mono ?_
    rintro e w17 ⟨rfl, u17⟩
    clear ka kb k1 k2 k3 k4 k5 k6 k7 k8 kS kP
    go_wp2
    go_ret
    exact ⟨rfl, u1.trans (u2.trans (u3.trans (u4.trans (u5.trans (u6.trans (u7.trans (u8.trans (u9.trans (u10.trans (u11.trans (u13.trans (u15.trans (u16.trans u17)))))))))))))⟩
end Go.Proofs.Ytknanpnbpmmlgaa
