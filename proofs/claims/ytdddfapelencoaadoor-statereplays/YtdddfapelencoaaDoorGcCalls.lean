/- gcra: what behind, Admit, Retry, Burst and Delay answer, in the numbers of GcNum. -/
import Derived.Test.YtdddfapelencoaaDoorGcSat
import Derived.Test.YtdddfapelencoaaDoorGcNum
set_option linter.unusedVariables false
namespace Go.Proofs.YtdddfapelencoaaDoor
open Go Go.RowKit

theorem ne_int (a : Nat) (h : a ≠ 0) : ((a : Int) == 0) = false := by simp; omega

/-- No units, or no gap. -/
theorem behind_zero (gap base n : Nat) (h : n = 0 ∨ gap = 0) (w : World) : Calls Tryd.prog 76 #[V gap, V base, V n] w fun e w' => e = .returned (.tuple #[.int .u64 0, .bool false]) ∧ Up w w' := by
  by_cases hg : gap = 0
  · subst hg
    clear h
    go_enter Tryd.func76, Tryd.ntmps76
    go_wp2
    go_ret2
    exact ⟨rfl, Up.refl _⟩
  · obtain rfl : n = 0 := by omega
    have hz := ne_int gap hg
    clear h hg
    go_enter Tryd.func76, Tryd.ntmps76
    go_wp2
    go_ret2
    exact ⟨rfl, Up.refl _⟩

/-- What Narrow answers of a number: the number, or 0; and whether it fits. -/
theorem Narrow_any (n : Nat) : ∃ (s : Nat) (ok : Bool), (∀ w, Calls Tryd.prog 85 #[Wd n] w fun e w' => e = .returned (.tuple #[V s, .bool ok]) ∧ Up w w') ∧ (n < 18446744073709551616 ∧ ok = true ∧ s = n ∨ 18446744073709551616 ≤ n ∧ ok = false ∧ s = 0) := by
  by_cases h : n < 18446744073709551616
  · exact ⟨n, true, Narrow_fits n h, Or.inl ⟨h, rfl, rfl⟩⟩
  · exact ⟨0, false, Narrow_not n (by omega), Or.inr ⟨by omega, rfl, rfl⟩⟩

theorem plus_small (a b : Nat) (h : N128 (a + b)) : plusN a b = a + b := if_pos h

theorem base_sum_lt (gap base n : Nat) (hg : N64 gap) (hb : N64 base) (hn : N64 n) : N128 (n * gap + base) := by
  unfold N64 N128 at *
  have := Nat.mul_le_mul (show n ≤ 18446744073709551615 by omega) (show gap ≤ 18446744073709551615 by omega)
  omega

theorem behind_any (gap base n : Nat) (hg : N64 gap) (hb : N64 base) (hn : N64 n) : ∃ (s : Nat) (ok : Bool), (∀ w, Calls Tryd.prog 76 #[V gap, V base, V n] w fun e w' => e = .returned (.tuple #[V s, .bool ok]) ∧ Up w w') ∧
    (1 ≤ n ∧ 1 ≤ gap ∧ base + n * gap ≤ 18446744073709551615 ∧ ok = true ∧ s = base + n * gap ∨ ¬ (1 ≤ n ∧ 1 ≤ gap ∧ base + n * gap ≤ 18446744073709551615) ∧ ok = false) := by
  by_cases h : n = 0 ∨ gap = 0
  · exact ⟨0, false, fun w => behind_zero gap base n h w, Or.inr ⟨by omega, rfl⟩⟩
  · have hN := base_sum_lt gap base n hg hb hn
    have k1 := Product_any gap n hg hn
    rw [Nat.mul_comm gap n] at k1
    have k2 := Of_any base hb
    have k3 := Plus_any (n * gap) base (by unfold N128 at *; omega) (by unfold N64 N128 at *; omega)
    rw [plus_small _ _ hN] at k3
    obtain ⟨s, ok, k4, hs⟩ := Narrow_any (n * gap + base)
    refine ⟨s, ok, fun w => ?_, ?_⟩
    · have z1 := ne_int gap (by omega)
      have z2 := ne_int n (by omega)
      clear hs hN hg hb hn h
      obtain ⟨P, hP⟩ : ∃ P, n * gap = P := ⟨_, rfl⟩
      rw [hP] at k1 k3 k4
      obtain ⟨Q, hQ⟩ : ∃ Q, P + base = Q := ⟨_, rfl⟩
      rw [hQ] at k3 k4
      clear hP hQ
      go_enter Tryd.func76, Tryd.ntmps76
      go_wp2_with fail
      refine (k1 _).mono ?_
      rintro e w1 ⟨rfl, u1⟩
      go_wp2_with fail
      refine (k2 _).mono ?_
      rintro e w2 ⟨rfl, u2⟩
      go_wp2_with fail
      refine (k3 _).mono ?_
      rintro e w3 ⟨rfl, u3⟩
      go_wp2_with fail
      refine (k4 _).mono ?_
      rintro e w4 ⟨rfl, u4⟩
      go_wp2
      go_ret2
      exact ⟨rfl, u1.trans (u2.trans (u3.trans u4))⟩
    · rcases hs with ⟨h1, h2, h3⟩ | ⟨h1, h2, h3⟩
      · left; exact ⟨by omega, by omega, by omega, h2, by omega⟩
      · right; exact ⟨by omega, h2⟩

/-- The wraps of differences that don't go below 0. -/
theorem sub_n (a b : Nat) (h : b ≤ a) (ha : a < 18446744073709551616) : IntKind.u64.wrap ((a : Int) - (b : Int)) = ((a - b : Nat) : Int) := by rw [IntKind.wrap_u64]; omega

/-- The greater one of tat and now, as the builtin tells it. -/
theorem base_is (tat now : Nat) : (tat < now ∧ gBase tat now = now) ∨ (¬ tat < now ∧ gBase tat now = tat) := by
  unfold gBase; split <;> omega

theorem base_lt (tat now : Nat) (ht : N64 tat) (hw : N64 now) : N64 (gBase tat now) := by unfold gBase N64 at *; split <;> omega

theorem Admit_any (gap slack tat now n : Nat) (hg : N64 gap) (hs : N64 slack) (ht : N64 tat) (hw : N64 now) (hn : N64 n) (w : World) :
    Calls Tryd.prog 67 #[V gap, V slack, V tat, V now, V n] w fun e w' => e = .returned (.tuple #[V (gTat gap slack tat now n), .bool (decide (GFits gap slack tat now n))]) ∧ Up w w' := by
  have hbm := gBase_max tat now
  obtain ⟨s, ok, k1, hh⟩ := behind_any gap (gBase tat now) n hg (base_lt tat now ht hw) hn
  have hbi := base_is tat now
  rcases hh with ⟨h1, h2, h3, rfl, hs'⟩ | ⟨h1, rfl⟩
  · have hp := pred_mul n gap h1
    obtain ⟨A, hA⟩ : ∃ A, gBase tat now + (n - 1) * gap = A := ⟨_, rfl⟩
    have w1 : IntKind.u64.wrap ((s : Int) - (gap : Int)) = (A : Int) := by rw [IntKind.wrap_u64]; omega
    have w2 : IntKind.u64.wrap ((A : Int) - (now : Int)) = ((A - now : Nat) : Int) := by rw [IntKind.wrap_u64]; omega
    by_cases hf : GFits gap slack tat now n
    · have e1 : gTat gap slack tat now n = s := by rw [gTat, if_pos hf, hs']
      have e2 : decide (GFits gap slack tat now n) = true := decide_eq_true hf
      have c1 : ¬ (slack : Int) < ((A - now : Nat) : Int) := by have := hf.2.2.1; omega
      have c2 : ¬ slack < A - now := by omega
      rw [e1, e2]
      obtain ⟨D, hD⟩ : ∃ D, A - now = D := ⟨_, rfl⟩
      rw [hD] at w2 c1 c2
      clear e1 e2 hf hD hA hp hs' h1 h2 h3 hbm hg hs ht hw hn
      rcases hbi with ⟨hlt, hbb⟩ | ⟨hlt, hbb⟩
      all_goals
        rw [hbb] at k1
        clear hbb
        go_enter Tryd.func67, Tryd.ntmps67
        go_wp2_with fail
        refine (k1 _).mono ?_
        rintro e w1 ⟨rfl, u1⟩
        go_wp2
        go_ret2
        exact ⟨rfl, u1⟩
    · have e1 : gTat gap slack tat now n = tat := if_neg hf
      have e2 : decide (GFits gap slack tat now n) = false := decide_eq_false hf
      have c2 : slack < A - now := by
        rcases Nat.lt_or_ge slack (A - now) with h | h
        · exact h
        · exact absurd ⟨h1, h2, by omega, h3⟩ hf
      have c1 : (slack : Int) < ((A - now : Nat) : Int) := by omega
      rw [e1, e2]
      obtain ⟨D, hD⟩ : ∃ D, A - now = D := ⟨_, rfl⟩
      rw [hD] at w2 c1 c2
      clear e1 e2 hf hD hA hp hs' h1 h2 h3 hbm hg hs ht hw hn
      rcases hbi with ⟨hlt, hbb⟩ | ⟨hlt, hbb⟩
      all_goals
        rw [hbb] at k1
        clear hbb
        go_enter Tryd.func67, Tryd.ntmps67
        go_wp2_with fail
        refine (k1 _).mono ?_
        rintro e w1 ⟨rfl, u1⟩
        go_wp2
        go_ret2
        exact ⟨rfl, u1⟩
  · have hf : ¬ GFits gap slack tat now n := fun h => h1 ⟨h.1, h.2.1, h.2.2.2⟩
    have e1 : gTat gap slack tat now n = tat := if_neg hf
    have e2 : decide (GFits gap slack tat now n) = false := decide_eq_false hf
    rw [e1, e2]
    clear h1 hf e1 e2 hbm hg hs ht hw hn
    rcases hbi with ⟨hlt, hbb⟩ | ⟨hlt, hbb⟩
    all_goals
      rw [hbb] at k1
      clear hbb
      go_enter Tryd.func67, Tryd.ntmps67
      go_wp2_with fail
      refine (k1 _).mono ?_
      rintro e w1 ⟨rfl, u1⟩
      go_wp2
      go_ret2
      exact ⟨rfl, u1⟩

theorem retry_lt (gap slack tat now n : Nat) (ht : N64 tat) (hw : N64 now) : N64 (gRetry gap slack tat now n) := by
  unfold gRetry N64 at *
  split
  · omega
  · split <;> omega

set_option maxHeartbeats 400000 in
theorem Retry_any (gap slack tat now n : Nat) (hg : N64 gap) (hs : N64 slack) (ht : N64 tat) (hw : N64 now) (hn : N64 n) (w : World) :
    Calls Tryd.prog 68 #[V gap, V slack, V tat, V now, V n] w fun e w' => e = .returned (V (gRetry gap slack tat now n)) ∧ Up w w' := by
  have hbm := gBase_max tat now
  obtain ⟨s, ok, k1, hh⟩ := behind_any gap (gBase tat now) n hg (base_lt tat now ht hw) hn
  have hbi := base_is tat now
  have htop : V 18446744073709551615 = .int .u64 18446744073709551615 := rfl
  rcases hh with ⟨h1, h2, h3, rfl, hs'⟩ | ⟨h1, rfl⟩
  · have hp := pred_mul n gap h1
    obtain ⟨S, hS⟩ : ∃ S, (n - 1) * gap = S := ⟨_, rfl⟩
    rw [hS] at hp
    obtain ⟨A, hA⟩ : ∃ A, gBase tat now + S = A := ⟨_, rfl⟩
    have w1 : IntKind.u64.wrap ((s : Int) - (gap : Int)) = (A : Int) := by rw [IntKind.wrap_u64]; omega
    have w2 : IntKind.u64.wrap ((A : Int) - (gBase tat now : Int)) = (S : Int) := by rw [IntKind.wrap_u64]; unfold N64 at *; omega
    by_cases hc : slack < S
    · have e1 : gRetry gap slack tat now n = 18446744073709551615 := if_pos (Or.inr (Or.inr (Or.inl (by omega))))
      have c1 : (slack : Int) < (S : Int) := by omega
      rw [e1, htop]
      clear e1 htop hA hS hp hs' h1 h2 h3 hbm hg hs ht hw hn
      rcases hbi with ⟨hlt, hbb⟩ | ⟨hlt, hbb⟩
      all_goals
        rw [hbb] at k1 w2
        clear hbb
        go_enter Tryd.func68, Tryd.ntmps68
        go_wp2_with fail
        refine (k1 _).mono ?_
        rintro e w1 ⟨rfl, u1⟩
        go_wp2
        go_ret
        exact ⟨rfl, u1⟩
    · have e1 : gRetry gap slack tat now n = if now + slack < tat + S then tat + S - slack else now := by
        rw [← hS]
        exact if_neg (by omega)
      have c1 : ¬ (slack : Int) < (S : Int) := by omega
      have w3 : IntKind.u64.wrap ((slack : Int) - (S : Int)) = ((slack - S : Nat) : Int) := by rw [IntKind.wrap_u64]; unfold N64 at *; omega
      have k2 := Sub_any tat (slack - S) ht
      obtain ⟨F, hF⟩ : ∃ F, slack - S = F := ⟨_, rfl⟩
      rw [hF] at w3 k2
      obtain ⟨G, hG⟩ : ∃ G, tat - F = G := ⟨_, rfl⟩
      rw [hG] at k2
      have e2 : (now < G ∧ gRetry gap slack tat now n = G) ∨ (¬ now < G ∧ gRetry gap slack tat now n = now) := by
        rw [e1]
        split <;> omega
      obtain ⟨R, hR⟩ : ∃ R, gRetry gap slack tat now n = R := ⟨_, rfl⟩
      rw [hR] at e2 ⊢
      clear e1 hR htop hA hS hp hs' h1 h2 h3 hbm hg hs ht hw hn hF hG
      rcases hbi with ⟨hlt, hbb⟩ | ⟨hlt, hbb⟩
      all_goals
        rw [hbb] at k1 w2
        clear hbb
        rcases e2 with ⟨c3, rfl⟩ | ⟨c3, rfl⟩
      all_goals
        go_enter Tryd.func68, Tryd.ntmps68
        go_wp2_with fail
        refine (k1 _).mono ?_
        rintro e w1 ⟨rfl, u1⟩
        go_wp2_with fail
        refine (k2 _).mono ?_
        rintro e w2 ⟨rfl, rfl⟩
        go_wp2
        go_ret
        exact ⟨rfl, u1⟩
  · have e1 : gRetry gap slack tat now n = 18446744073709551615 := if_pos (by omega)
    rw [e1, htop]
    clear e1 htop h1 hbm hg hs ht hw hn
    rcases hbi with ⟨hlt, hbb⟩ | ⟨hlt, hbb⟩
    all_goals
      rw [hbb] at k1
      clear hbb
      go_enter Tryd.func68, Tryd.ntmps68
      go_wp2_with fail
      refine (k1 _).mono ?_
      rintro e w1 ⟨rfl, u1⟩
      go_wp2
      go_ret
      exact ⟨rfl, u1⟩

/-- Burst in the numbers that the program reckons: two quotients and the lesser one. -/
theorem burst_parts (gap slack tat now : Nat) (h1 : 1 ≤ gap) (h2 : gBase tat now - now ≤ slack) :
    (gBurst gap slack tat now = addN ((slack - (gBase tat now - now)) / gap) 1 ∧ addN ((slack - (gBase tat now - now)) / gap) 1 ≤ (18446744073709551615 - gBase tat now) / gap) ∨
    (gBurst gap slack tat now = (18446744073709551615 - gBase tat now) / gap ∧ (18446744073709551615 - gBase tat now) / gap < addN ((slack - (gBase tat now - now)) / gap) 1) := by
  have hbm := gBase_max tat now
  have e : now + slack - gBase tat now = slack - (gBase tat now - now) := by omega
  have hF := Nat.div_le_self (18446744073709551615 - gBase tat now) gap
  by_cases hf : GFits gap slack tat now 1
  · have e2 : gBurst gap slack tat now = if (now + slack - gBase tat now) / gap + 1 < (18446744073709551615 - gBase tat now) / gap then (now + slack - gBase tat now) / gap + 1 else (18446744073709551615 - gBase tat now) / gap := if_pos hf
    rw [e] at e2
    rw [e2]
    generalize (slack - (gBase tat now - now)) / gap = q
    generalize (18446744073709551615 - gBase tat now) / gap = f at *
    unfold addN
    split <;> split <;> omega
  · have e2 : gBurst gap slack tat now = 0 := if_neg hf
    have hz : (18446744073709551615 - gBase tat now) / gap = 0 := by
      rw [Nat.div_eq_zero_iff]
      right
      rcases Nat.lt_or_ge (18446744073709551615 - gBase tat now) gap with h | h
      · exact h
      · exact absurd ⟨Nat.le_refl _, h1, by omega, by omega⟩ hf
    right
    rw [e2, hz]
    refine ⟨rfl, ?_⟩
    generalize (slack - (gBase tat now - now)) / gap = q
    unfold addN
    split <;> omega

theorem Burst_none (gap slack tat now : Nat) (hg : gap = 0) (w : World) :
    Calls Tryd.prog 69 #[V gap, V slack, V tat, V now] w fun e w' => e = .returned (.int .u64 0) ∧ w' = w := by
  subst hg
  have hbi := base_is tat now
  rcases hbi with ⟨hlt, hbb⟩ | ⟨hlt, hbb⟩
  all_goals
    clear hbb
    go_enter Tryd.func69, Tryd.ntmps69
    go_wp2
    go_ret
    exact ⟨rfl, rfl⟩

/-- tat lies behind now: nothing is ahead. -/
theorem Burst_now (gap slack tat now I q f E R : Nat) (hlt : tat < now) (hs : N64 slack) (z1 : ((gap : Int) == 0) = false) (z2 : (0 : Int) < (gap : Int))
    (k1 : ∀ w, Calls Tryd.prog 78 #[V q, .int .u64 1] w fun e w' => e = .returned (V I) ∧ w' = w)
    (w3 : IntKind.u64.wrap (18446744073709551615 - (now : Int)) = (E : Int))
    (q1 : (slack : Int) / (gap : Int) = (q : Int)) (q2 : IntKind.u64.wrap (q : Int) = (q : Int)) (f1 : (E : Int) / (gap : Int) = (f : Int)) (f2 : IntKind.u64.wrap (f : Int) = (f : Int))
    (hp : (R = I ∧ I < f ∧ ¬ f < I) ∨ (R = f ∧ f < I ∧ ¬ I < f) ∨ (R = f ∧ I = f)) (w : World) :
    Calls Tryd.prog 69 #[V gap, V slack, V tat, V now] w fun e w' => e = .returned (V R) ∧ w' = w := by
  have c1 : decide ((slack : Int) < 0) = false := decide_eq_false (by omega)
  have w2 := wrap_n slack hs
  have n1 : (0 : Int) ≤ (slack : Int) := by omega
  have n2 : (0 : Int) ≤ (E : Int) := by omega
  clear hs
  rcases hp with ⟨rfl, c3, c4⟩ | ⟨rfl, c3, c4⟩ | ⟨rfl, rfl⟩
  all_goals
    go_enter Tryd.func69, Tryd.ntmps69
    go_wp2_with fail
    refine (k1 _).mono ?_
    rintro e w1 ⟨rfl, rfl⟩
    go_wp2
    go_ret
    exact ⟨rfl, rfl⟩

/-- tat lies at now or ahead of it. -/
theorem Burst_tat (gap slack tat now A D I q f E R : Nat) (hlt : ¬ tat < now) (z1 : ((gap : Int) == 0) = false) (z2 : (0 : Int) < (gap : Int))
    (w1 : IntKind.u64.wrap ((tat : Int) - (now : Int)) = (A : Int)) (c1 : ¬ (slack : Int) < (A : Int)) (w2 : IntKind.u64.wrap ((slack : Int) - (A : Int)) = (D : Int))
    (k1 : ∀ w, Calls Tryd.prog 78 #[V q, .int .u64 1] w fun e w' => e = .returned (V I) ∧ w' = w)
    (w3 : IntKind.u64.wrap (18446744073709551615 - (tat : Int)) = (E : Int))
    (q1 : (D : Int) / (gap : Int) = (q : Int)) (q2 : IntKind.u64.wrap (q : Int) = (q : Int)) (f1 : (E : Int) / (gap : Int) = (f : Int)) (f2 : IntKind.u64.wrap (f : Int) = (f : Int))
    (hp : (R = I ∧ I < f ∧ ¬ f < I) ∨ (R = f ∧ f < I ∧ ¬ I < f) ∨ (R = f ∧ I = f)) (w : World) :
    Calls Tryd.prog 69 #[V gap, V slack, V tat, V now] w fun e w' => e = .returned (V R) ∧ w' = w := by
  have n1 : (0 : Int) ≤ (D : Int) := by omega
  have n2 : (0 : Int) ≤ (E : Int) := by omega
  rcases hp with ⟨rfl, c3, c4⟩ | ⟨rfl, c3, c4⟩ | ⟨rfl, rfl⟩
  all_goals
    go_enter Tryd.func69, Tryd.ntmps69
    go_wp2_with fail
    refine (k1 _).mono ?_
    rintro e w1 ⟨rfl, rfl⟩
    go_wp2
    go_ret
    exact ⟨rfl, rfl⟩

/-- tat lies farther ahead than the slack. -/
theorem Burst_far (gap slack tat now A : Nat) (hlt : ¬ tat < now) (z1 : ((gap : Int) == 0) = false)
    (w1 : IntKind.u64.wrap ((tat : Int) - (now : Int)) = (A : Int)) (c1 : (slack : Int) < (A : Int)) (w : World) :
    Calls Tryd.prog 69 #[V gap, V slack, V tat, V now] w fun e w' => e = .returned (.int .u64 0) ∧ w' = w := by
  go_enter Tryd.func69, Tryd.ntmps69
  go_wp2
  go_ret
  exact ⟨rfl, rfl⟩

theorem Burst_any (gap slack tat now : Nat) (hg : N64 gap) (hs : N64 slack) (ht : N64 tat) (hw : N64 now) (w : World) :
    Calls Tryd.prog 69 #[V gap, V slack, V tat, V now] w fun e w' => e = .returned (V (gBurst gap slack tat now)) ∧ w' = w := by
  have hbm := gBase_max tat now
  have hbl := base_lt tat now ht hw
  have hbi := base_is tat now
  by_cases hg0 : gap = 0
  · have e1 : gBurst gap slack tat now = 0 := if_neg (fun h => by have := h.2.1; omega)
    rw [e1]
    exact Burst_none gap slack tat now hg0 w
  · have z1 := ne_int gap hg0
    by_cases hc : slack < gBase tat now - now
    · have e1 : gBurst gap slack tat now = 0 := if_neg (fun h => by have := h.2.2.1; omega)
      rw [e1]
      rcases hbi with ⟨hlt, hbb⟩ | ⟨hlt, hbb⟩
      · omega
      · exact Burst_far gap slack tat now (tat - now) hlt z1 (sub_n _ _ (by omega) ht) (by omega) w
    · have hp := burst_parts gap slack tat now (by omega) (by omega)
      have bq := Nat.div_le_self (slack - (gBase tat now - now)) gap
      have bf := Nat.div_le_self (18446744073709551615 - gBase tat now) gap
      have hnq : N64 ((slack - (gBase tat now - now)) / gap) := by unfold N64 at *; omega
      have k1 := Add_any ((slack - (gBase tat now - now)) / gap) 1 hnq (by unfold N64; omega)
      have f1 : ((18446744073709551615 - gBase tat now : Nat) : Int) / (gap : Int) = (((18446744073709551615 - gBase tat now) / gap : Nat) : Int) := (Int.natCast_ediv ..).symm
      have f2 := wrap_n ((18446744073709551615 - gBase tat now) / gap) (by omega)
      have hp' : (gBurst gap slack tat now = addN ((slack - (gBase tat now - now)) / gap) 1 ∧ addN ((slack - (gBase tat now - now)) / gap) 1 < (18446744073709551615 - gBase tat now) / gap ∧ ¬ (18446744073709551615 - gBase tat now) / gap < addN ((slack - (gBase tat now - now)) / gap) 1) ∨
          (gBurst gap slack tat now = (18446744073709551615 - gBase tat now) / gap ∧ (18446744073709551615 - gBase tat now) / gap < addN ((slack - (gBase tat now - now)) / gap) 1 ∧ ¬ addN ((slack - (gBase tat now - now)) / gap) 1 < (18446744073709551615 - gBase tat now) / gap) ∨
          (gBurst gap slack tat now = (18446744073709551615 - gBase tat now) / gap ∧ addN ((slack - (gBase tat now - now)) / gap) 1 = (18446744073709551615 - gBase tat now) / gap) := by
        generalize addN ((slack - (gBase tat now - now)) / gap) 1 = I at hp ⊢
        generalize (18446744073709551615 - gBase tat now) / gap = f at hp ⊢
        generalize gBurst gap slack tat now = R at hp ⊢
        omega
      rcases hbi with ⟨hlt, hbb⟩ | ⟨hlt, hbb⟩
      · rw [show gBase tat now - now = 0 by omega, Nat.sub_zero] at *
        exact Burst_now gap slack tat now _ _ _ (18446744073709551615 - gBase tat now) _ hlt hs z1 (by omega) k1 (by rw [hbb]; exact sub_n 18446744073709551615 now (by unfold N64 at *; omega) (by omega)) (Int.natCast_ediv ..).symm (wrap_n _ hnq) f1 f2 hp' w
      · exact Burst_tat gap slack tat now (gBase tat now - now) (slack - (gBase tat now - now)) _ _ _ (18446744073709551615 - gBase tat now) _ hlt z1 (by omega) (by rw [hbb]; exact sub_n _ _ (by omega) ht) (by omega) (sub_n _ _ (by omega) hs) k1 (by rw [hbb]; exact sub_n 18446744073709551615 tat (by unfold N64 at *; omega) (by omega)) (Int.natCast_ediv ..).symm (wrap_n _ hnq) f1 f2 hp' w

/-- How long the next single unit would wait. -/
def gDelay (gap slack tat now : Nat) : Nat := if gRetry gap slack tat now 1 = 18446744073709551615 then 18446744073709551615 else gRetry gap slack tat now 1 - now

theorem retry_ge (gap slack tat now n : Nat) (hw : N64 now) : now ≤ gRetry gap slack tat now n := by
  unfold gRetry N64 at *
  split
  · omega
  · split <;> omega

end Go.Proofs.YtdddfapelencoaaDoor
