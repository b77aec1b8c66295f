/- The law WindowLeast returns true for every numbers, and changes nothing that was there. -/
import Derived.Test.YtdopbnmmcjofmaaWnLives
set_option linter.unusedVariables false
namespace Go.Proofs.Ytdopbnmmcjofmaa
open Go Go.RowKit

set_option maxHeartbeats 3200000 in
theorem WindowLeast_any (kind : Int) (limit span index count now n tried : Nat) (hl : N64 limit) (hs : N64 span) (hi : N64 index) (hc : N64 count) (hw : N64 now) (hn : N64 n) (ht : N64 tried) (w : World) :
    Calls Try.prog 4 #[Ow kind limit span index count now n, V tried] w fun e w' => e = .returned (.bool true) ∧ Up w w' := by
  have kr := wRetry_any limit span index count now n hl hs hi hw
  have hL := wretry_least limit span index count now n (by unfold N64 at hw; omega) (by unfold N64 at hi; omega)
  obtain ⟨R, hR⟩ : ∃ R, wRetry limit span index count now n = R := ⟨_, rfl⟩
  rw [hR] at kr hL
  clear hR
  have hRl : N64 R := by have := hL.le; unfold N64; omega
  have ka := admits_any kind limit span index count now R n hl hRl hn
  have c0 : ¬ (R : Int) < (now : Int) := by have := hL.ge; omega
  have hfit : decide (WFits limit span index count R n) = false → R = 18446744073709551615 := fun h => by
    rcases Nat.decEq R 18446744073709551615 with d | d
    · exact absurd (hL.fit d) (of_decide_eq_false h)
    · exact d
  obtain ⟨o, ho⟩ : ∃ o, decide (WFits limit span index count R n) = o := ⟨_, rfl⟩
  rw [ho] at ka hfit
  by_cases hne : R = now
  · obtain rfl : now = R := hne.symm
    clear ho hL hne
    have ho' : o = true ∨ (o = false ∧ ((now : Int) == 18446744073709551615) = true) := by cases o with | true => exact Or.inl rfl | false => exact Or.inr ⟨rfl, by have := hfit rfl; simp; omega⟩
    clear hfit hl hs hi hc hw hn ht hRl
    rcases ho' with rfl | ⟨rfl, c5⟩
    all_goals
      go_enter Try.func4, Try.ntmps4
      go_wp2_with fail
      refine (wawake_any _).mono ?_
      rintro e w1 ⟨rfl, u1⟩
      have hs := o7_grow (o7_new w kind limit span index count now n) u1
      generalize w.heap.size = g at hs ⊢
      clear u1
      obtain ⟨a0, a1, a2, a3, a4, a5, a6, hu⟩ := hs
      go_wp2_with fail
      refine (kr _).mono ?_
      rintro e w2 ⟨rfl, u2⟩
      have hs := o7_grow ⟨a0, a1, a2, a3, a4, a5, a6, hu⟩ u2
      clear a0 a1 a2 a3 a4 a5 a6 hu u2 kr
      obtain ⟨a0, a1, a2, a3, a4, a5, a6, hu⟩ := hs
      go_wp2_with fail
      refine (ka _).mono ?_
      rintro e w3 ⟨rfl, u3⟩
      have hs := o7_grow ⟨a0, a1, a2, a3, a4, a5, a6, hu⟩ u3
      clear a0 a1 a2 a3 a4 a5 a6 hu u3 ka
      obtain ⟨a0, a1, a2, a3, a4, a5, a6, hu⟩ := hs
      go_wp2
      go_ret
      exact ⟨rfl, hu⟩
  · have hlt : now < R := by have := hL.ge; omega
    obtain ⟨D, hD⟩ : ∃ D, R - now = D := ⟨_, rfl⟩
    have hD0 : 0 < D := by omega
    have hm := Nat.mod_lt tried hD0
    obtain ⟨M, hM⟩ : ∃ M, tried % D = M := ⟨_, rfl⟩
    rw [hM] at hm
    obtain ⟨B, hB⟩ : ∃ B, now + M = B := ⟨_, rfl⟩
    obtain ⟨P, hP⟩ : ∃ P, R - 1 = P := ⟨_, rfl⟩
    have s1 : IntKind.u64.wrap ((R : Int) - (now : Int)) = (D : Int) := by rw [← hD]; exact sub_w R now (by omega) hRl
    have s2 : (tried : Int) % (D : Int) = (M : Int) := by rw [← hM]; rfl
    have s3 : IntKind.u64.wrap (M : Int) = (M : Int) := wrap_n M (by unfold N64 at hRl; omega)
    have s4 : IntKind.u64.wrap ((now : Int) + (M : Int)) = (B : Int) := by rw [add_n, hB]; exact wrap_n B (by unfold N64 at hRl; omega)
    have s5 : IntKind.u64.wrap ((R : Int) - 1) = (P : Int) := by rw [← hP]; exact sub_w R 1 (by omega) hRl
    have z1 : ((D : Int) == 0) = false := wne_int D (by omega)
    have z2 : (0 : Int) < (D : Int) := by omega
    have z3 : (0 : Int) ≤ (tried : Int) := by omega
    have z4 : ((R : Int) == (now : Int)) = false := by simp; omega
    have kp := admits_any kind limit span index count now P n hl (by unfold N64 at *; omega) hn
    have kb := admits_any kind limit span index count now B n hl (by unfold N64 at *; omega) hn
    have kn := admits_any kind limit span index count now now n hl hw hn
    rw [decide_eq_false (hL.before P (by omega) (by omega))] at kp
    rw [decide_eq_false (hL.before B (by omega) (by omega))] at kb
    rw [decide_eq_false (hL.before now (by omega) (by omega))] at kn
    clear ho hL hD hM hB hP hm hD0 hlt
    have ho' : o = true ∨ (o = false ∧ ((R : Int) == 18446744073709551615) = true) := by cases o with | true => exact Or.inl rfl | false => exact Or.inr ⟨rfl, by have := hfit rfl; simp; omega⟩
    clear hfit hl hs hi hc hw hn ht hRl
    rcases ho' with rfl | ⟨rfl, c5⟩
    all_goals
      go_enter Try.func4, Try.ntmps4
      go_wp2_with fail
      refine (wawake_any _).mono ?_
      rintro e w1 ⟨rfl, u1⟩
      have hs := o7_grow (o7_new w kind limit span index count now n) u1
      generalize w.heap.size = g at hs ⊢
      clear u1
      obtain ⟨a0, a1, a2, a3, a4, a5, a6, hu⟩ := hs
      go_wp2_with fail
      refine (kr _).mono ?_
      rintro e w2 ⟨rfl, u2⟩
      have hs := o7_grow ⟨a0, a1, a2, a3, a4, a5, a6, hu⟩ u2
      clear a0 a1 a2 a3 a4 a5 a6 hu u2 kr
      obtain ⟨a0, a1, a2, a3, a4, a5, a6, hu⟩ := hs
      go_wp2_with fail
      refine (ka _).mono ?_
      rintro e w3 ⟨rfl, u3⟩
      have hs := o7_grow ⟨a0, a1, a2, a3, a4, a5, a6, hu⟩ u3
      clear a0 a1 a2 a3 a4 a5 a6 hu u3 ka
      obtain ⟨a0, a1, a2, a3, a4, a5, a6, hu⟩ := hs
      go_wp2_with fail
      go_quiet (fail)
      have hs := o7_grow ⟨a0, a1, a2, a3, a4, a5, a6, hu⟩ (Up.drewN _ nq)
      clear a0 a1 a2 a3 a4 a5 a6 hu
      obtain ⟨a0, a1, a2, a3, a4, a5, a6, hu⟩ := hs
      go_wp2_with fail
      refine (kp _).mono ?_
      rintro e w4 ⟨rfl, u4⟩
      have hs := o7_grow ⟨a0, a1, a2, a3, a4, a5, a6, hu⟩ u4
      clear a0 a1 a2 a3 a4 a5 a6 hu u4 kp
      obtain ⟨a0, a1, a2, a3, a4, a5, a6, hu⟩ := hs
      go_wp2_with fail
      refine (kb _).mono ?_
      rintro e w5 ⟨rfl, u5⟩
      have hs := o7_grow ⟨a0, a1, a2, a3, a4, a5, a6, hu⟩ u5
      clear a0 a1 a2 a3 a4 a5 a6 hu u5 kb
      obtain ⟨a0, a1, a2, a3, a4, a5, a6, hu⟩ := hs
      go_wp2_with fail
      refine (kn _).mono ?_
      rintro e w6 ⟨rfl, u6⟩
      have hs := o7_grow ⟨a0, a1, a2, a3, a4, a5, a6, hu⟩ u6
      clear a0 a1 a2 a3 a4 a5 a6 hu u6 kn
      obtain ⟨a0, a1, a2, a3, a4, a5, a6, hu⟩ := hs
      go_wp2
      go_ret
      exact ⟨rfl, hu⟩
end Go.Proofs.Ytdopbnmmcjofmaa
