/- gcra: the reference's Retry, Burst (both by halving) and Delay. -/
import Derived.Test.YthpcjhihifhmgaaGcFits
set_option linter.unusedVariables false
namespace Go.Proofs.Ythpcjhihifhmgaa
open Go Go.RowKit

/-- Up to tat waiting makes it no worse. -/
theorem fits_upto {gap slack tat t u n : Nat} (h : GFits gap slack tat t n) (h1 : t ≤ u) (h2 : u ≤ tat) : GFits gap slack tat u n := by
  have b1 := gBase_max tat t
  have b2 := gBase_max tat u
  obtain ⟨f1, f2, f3, f4⟩ := h
  exact ⟨f1, f2, by omega, by omega⟩
/-- Behind tat it makes it no better. -/
theorem fits_behind {gap slack tat t u n : Nat} (h : GFits gap slack tat u n) (h1 : t ≤ u) (h2 : tat ≤ t) : GFits gap slack tat t n := by
  have b1 := gBase_max tat t
  have b2 := gBase_max tat u
  obtain ⟨f1, f2, f3, f4⟩ := h
  exact ⟨f1, f2, by omega, by omega⟩

theorem retry_now {gap slack tat now n : Nat} (h : GFits gap slack tat now n) : gRetry gap slack tat now n = now := by
  by_cases c : n = 0 ∨ gap = 0 ∨ slack < (n - 1) * gap ∨ 18446744073709551615 < gBase tat now + n * gap
  · exact absurd h (retry_never c now (Nat.le_refl _))
  · obtain ⟨r1, r2, r3, r4⟩ := retry_least c
    rcases Nat.lt_or_ge now (gRetry gap slack tat now n) with d | d
    · exact absurd h (r4 now (Nat.le_refl _) d)
    · omega
theorem retry_none {gap slack tat now n : Nat} (h : ¬ GFits gap slack tat now n) (h2 : tat ≤ now ∨ ¬ GFits gap slack tat tat n) : gRetry gap slack tat now n = 18446744073709551615 := by
  rw [retry_is]
  intro t ht hf
  rcases Nat.lt_or_ge tat now with c | c
  · exact h (fits_behind hf ht (by omega))
  · have hc : ¬ GFits gap slack tat tat n := by
      rcases h2 with h2 | h2
      · obtain rfl : tat = now := by omega
        exact h
      · exact h2
    rcases Nat.lt_or_ge tat t with d | d
    · exact hc (fits_behind hf (by omega) (Nat.le_refl _))
    · exact hc (fits_upto hf d (Nat.le_refl _))
theorem retry_mid {gap slack tat now n no yes : Nat} (h1 : now ≤ no) (h2 : yes = no + 1) (h3 : yes ≤ tat) (hn : ¬ GFits gap slack tat no n) (hy : GFits gap slack tat yes n) : gRetry gap slack tat now n = yes := by
  by_cases c : n = 0 ∨ gap = 0 ∨ slack < (n - 1) * gap ∨ 18446744073709551615 < gBase tat now + n * gap
  · exact absurd hy (retry_never c yes (by omega))
  · obtain ⟨r1, r2, r3, r4⟩ := retry_least c
    generalize gRetry gap slack tat now n = R at *
    rcases Nat.lt_or_ge yes R with d | d
    · exact absurd hy (r4 yes (by omega) d)
    · rcases Nat.lt_or_ge no R with e | e
      · omega
      · exact absurd (fits_upto r3 e (by omega)) hn

/-- What a round of the halving for the least time keeps. -/
structure Rh (gap slack tat now n no yes : Nat) : Prop where
  lo : now ≤ no
  lt : no < yes
  hi : yes ≤ tat
  out : ¬ GFits gap slack tat no n
  fit : GFits gap slack tat yes n

/-- The numbers of one halving: how far apart, half of it, the middle. -/
theorem half_num (a b : Nat) (hab : a < b) (hb : N64 b) : ∃ D H M : Nat, b - a = D ∧ IntKind.u64.wrap ((b : Int) - (a : Int)) = (D : Int) ∧ (D : Int) / 2 = (H : Int) ∧ IntKind.u64.wrap (H : Int) = (H : Int) ∧ IntKind.u64.wrap ((a : Int) + (H : Int)) = (M : Int) ∧ (1 < D → a < M ∧ M < b) ∧ N64 M := by
  refine ⟨b - a, (b - a) / 2, a + (b - a) / 2, rfl, sub_n b a (by omega) hb, by omega, wrap_n _ ?_, ?_, fun h => by omega, ?_⟩
  · unfold N64 at *; omega
  · rw [add_n]; exact wrap_n _ (by unfold N64 at *; omega)
  · unfold N64 at *; omega

set_option maxHeartbeats 3200000 in
theorem rRetry_any (gap slack tat now n : Nat) (hg : N64 gap) (hs : N64 slack) (ht : N64 tat) (hw : N64 now) (hn : N64 n) (w : World) :
    Calls Try.prog 38 #[V gap, V slack, V tat, V now, V n] w fun e w' => e = .returned (V (gRetry gap slack tat now n)) ∧ Up w w' := by
  have kf := fun t (h : N64 t) => rfits_any gap slack tat t n hg hs ht h hn
  by_cases h0 : GFits gap slack tat now n
  · have k1 := kf now hw
    rw [decide_eq_true h0] at k1
    rw [retry_now h0]
    clear kf h0 hg hs ht hw hn
    go_enter Try.func38, Try.ntmps38
    go_wp2_with fail
    refine (k1 _).mono ?_
    rintro e w1 ⟨rfl, u1⟩
    go_wp2
    go_ret
    exact ⟨rfl, u1⟩
  · have k1 := kf now hw
    rw [decide_eq_false h0] at k1
    by_cases h1 : tat ≤ now
    · rw [retry_none h0 (Or.inl h1)]
      have c1 : (tat : Int) ≤ (now : Int) := by omega
      rw [show V 18446744073709551615 = .int .u64 18446744073709551615 from rfl]
      clear kf h0 h1 hg hs ht hw hn
      go_enter Try.func38, Try.ntmps38
      go_wp2_with fail
      refine (k1 _).mono ?_
      rintro e w1 ⟨rfl, u1⟩
      go_wp2
      go_ret
      exact ⟨rfl, u1⟩
    · have c1 : decide (tat ≤ now) = false := decide_eq_false h1
      have k2 := kf tat ht
      by_cases h2 : GFits gap slack tat tat n
      · rw [decide_eq_true h2] at k2
        have HI : Hid (Rh gap slack tat now n now tat) := ⟨Nat.le_refl _, by omega, Nat.le_refl _, h0, h2⟩
        have Hf : Hid (∀ t, N64 t → ∀ w, Calls Try.prog 49 #[V gap, V slack, V tat, V t, V n] w fun e w' => e = .returned (.bool (decide (GFits gap slack tat t n))) ∧ Up w w') := kf
        have Ht : Hid (N64 tat) := ht
        have fin : ∀ no yes, Rh gap slack tat now n no yes → yes = no + 1 → yes = gRetry gap slack tat now n := fun no yes h e => (retry_mid h.lo e h.hi h.out h.fit).symm
        have Fin : Hid (∀ no yes, Rh gap slack tat now n no yes → yes = no + 1 → yes = gRetry gap slack tat now n) := fin
        obtain ⟨R, hR⟩ : ∃ R, gRetry gap slack tat now n = R := ⟨_, rfl⟩
        rw [hR] at Fin ⊢
        clear kf fin h0 h1 h2 hR hg hs ht hw hn
        go_enter Try.func38, Try.ntmps38
        go_wp2_with fail
        refine (k1 _).mono ?_
        rintro e w1 ⟨rfl, u1⟩
        go_wp2_with fail
        refine (k2 _).mono ?_
        rintro e w2 ⟨rfl, u2⟩
        have H2 : Hid (Up w w2) := u1.trans u2
        clear k1 k2 u1 u2
        go_wp2
        go_loopg [11, 12] (tat - now) (fun g a b wr => ∃ no yes : Nat, yes - no = g ∧ a = V no ∧ b = V yes ∧ Hid (Rh gap slack tat now n no yes) ∧ Hid (Up w wr))
        case atStart => exact ⟨now, tat, rfl, rfl, rfl, HI.out, H2.out⟩
        case round =>
          obtain ⟨no, yes, rfl, rfl, rfl, hRh, hup⟩ := hrel
          obtain ⟨D, H, M, eD, w1', w2', w3', w4', hM, nM⟩ := half_num no yes hRh.out.lt (Nat.lt_of_le_of_lt hRh.out.hi Ht.out)
          clear HI H2 c1
          by_cases hD : 1 < D
          · have c2 : (1 : Int) < (D : Int) := by omega
            have n2 : (0 : Int) ≤ (D : Int) := by omega
            have kM := Hf.out M nM
            have Hm : Hid (no < M ∧ M < yes) := hM hD
            have HeD : Hid (yes - no = D) := eD
            clear hM hD eD nM
            by_cases hF : GFits gap slack tat M n
            · rw [decide_eq_true hF] at kM
              have HF : Hid (GFits gap slack tat M n) := hF
              clear hF
              go_wp2_with fail
              refine (kM _).mono ?_
              rintro e w5 ⟨rfl, u5⟩
              have H5 : Hid (Up w w5) := hup.out.trans u5
              clear kM u5 hup
              go_wp2
              go_roundg (M - no)
              case measure => have := Hm.out; omega
              case rel => exact ⟨no, M, rfl, rfl, rfl, ⟨hRh.out.lo, Hm.out.1, Nat.le_trans (Nat.le_of_lt Hm.out.2) hRh.out.hi, hRh.out.out, HF.out⟩, H5⟩
            · rw [decide_eq_false hF] at kM
              have HF : Hid (¬ GFits gap slack tat M n) := hF
              clear hF
              go_wp2_with fail
              refine (kM _).mono ?_
              rintro e w5 ⟨rfl, u5⟩
              have H5 : Hid (Up w w5) := hup.out.trans u5
              clear kM u5 hup
              go_wp2
              go_roundg (yes - M)
              case measure => have := Hm.out; omega
              case rel => exact ⟨M, yes, rfl, rfl, rfl, ⟨Nat.le_trans hRh.out.lo (Nat.le_of_lt Hm.out.1), Hm.out.2, hRh.out.hi, HF.out, hRh.out.fit⟩, H5⟩
          · have c2 : ¬ (1 : Int) < (D : Int) := by omega
            have e : yes = R := Fin.out no yes hRh.out (by have := hRh.out.lt; omega)
            subst e
            clear hM hD eD nM Fin Hf Ht
            go_wp2
            go_ret
            exact ⟨rfl, hup.out⟩
      · rw [decide_eq_false h2] at k2
        rw [retry_none h0 (Or.inr h2)]
        rw [show V 18446744073709551615 = .int .u64 18446744073709551615 from rfl]
        clear kf h0 h1 h2 hg hs ht hw hn
        go_enter Try.func38, Try.ntmps38
        go_wp2_with fail
        refine (k1 _).mono ?_
        rintro e w1 ⟨rfl, u1⟩
        go_wp2_with fail
        refine (k2 _).mono ?_
        rintro e w2 ⟨rfl, u2⟩
        go_wp2
        go_ret
        exact ⟨rfl, u1.trans u2⟩

/-- What a round of the halving for the greatest number keeps. -/
structure Bh (gap slack tat now yes no : Nat) : Prop where
  lo : 1 ≤ yes
  lt : yes < no
  hi : no ≤ 18446744073709551615
  fit : GFits gap slack tat now yes
  out : ¬ GFits gap slack tat now no

theorem burst_mid {gap slack tat now yes no : Nat} (h : Bh gap slack tat now yes no) (e : no = yes + 1) : yes = gBurst gap slack tat now := by
  have h1 := (burst_is yes).1 h.fit
  have h2 := fun x => h.out ((burst_is no).2 x)
  have := h.lo
  rcases Nat.lt_or_ge yes (gBurst gap slack tat now) with d | d
  · exact absurd ⟨by omega, by omega⟩ h2
  · omega

set_option maxHeartbeats 3200000 in
theorem rBurst_any (gap slack tat now : Nat) (hg : N64 gap) (hs : N64 slack) (ht : N64 tat) (hw : N64 now) (w : World) :
    Calls Try.prog 41 #[V gap, V slack, V tat, V now] w fun e w' => e = .returned (V (gBurst gap slack tat now)) ∧ Up w w' := by
  have kf := fun n (h : N64 n) => rfits_any gap slack tat now n hg hs ht hw h
  have n1 : N64 1 := by unfold N64; omega
  have nt : N64 18446744073709551615 := by unfold N64; omega
  have k1 := kf 1 n1
  rw [show V 1 = .int .u64 1 from rfl] at k1
  by_cases h0 : GFits gap slack tat now 1
  · rw [decide_eq_true h0] at k1
    have k2 := kf 18446744073709551615 nt
    rw [show V 18446744073709551615 = .int .u64 18446744073709551615 from rfl] at k2
    by_cases h1 : GFits gap slack tat now 18446744073709551615
    · rw [decide_eq_true h1] at k2
      have e : gBurst gap slack tat now = 18446744073709551615 := Nat.le_antisymm (burst_lt _ _ _ _) ((burst_is _).1 h1).2
      rw [e, show V 18446744073709551615 = .int .u64 18446744073709551615 from rfl]
      clear kf h0 h1 e hg hs ht hw n1 nt
      go_enter Try.func41, Try.ntmps41
      go_wp2_with fail
      refine (k1 _).mono ?_
      rintro e w1 ⟨rfl, u1⟩
      go_wp2_with fail
      refine (k2 _).mono ?_
      rintro e w2 ⟨rfl, u2⟩
      go_wp2
      go_ret
      exact ⟨rfl, u1.trans u2⟩
    · rw [decide_eq_false h1] at k2
      have HI : Hid (Bh gap slack tat now 1 18446744073709551615) := ⟨Nat.le_refl _, by omega, Nat.le_refl _, h0, h1⟩
      have Hf : Hid (∀ n, N64 n → ∀ w, Calls Try.prog 49 #[V gap, V slack, V tat, V now, V n] w fun e w' => e = .returned (.bool (decide (GFits gap slack tat now n))) ∧ Up w w') := kf
      have Fin : Hid (∀ yes no, Bh gap slack tat now yes no → no = yes + 1 → yes = gBurst gap slack tat now) := fun yes no h e => burst_mid h e
      obtain ⟨R, hR⟩ : ∃ R, gBurst gap slack tat now = R := ⟨_, rfl⟩
      rw [hR] at Fin ⊢
      clear kf h0 h1 hR hg hs ht hw n1 nt
      go_enter Try.func41, Try.ntmps41
      go_wp2_with fail
      refine (k1 _).mono ?_
      rintro e w1 ⟨rfl, u1⟩
      go_wp2_with fail
      refine (k2 _).mono ?_
      rintro e w2 ⟨rfl, u2⟩
      have H2 : Hid (Up w w2) := u1.trans u2
      clear k1 k2 u1 u2
      go_wp2
      go_loopg [9, 10] 18446744073709551614 (fun g a b wr => ∃ yes no : Nat, no - yes = g ∧ a = V yes ∧ b = V no ∧ Hid (Bh gap slack tat now yes no) ∧ Hid (Up w wr))
      case atStart => exact ⟨1, 18446744073709551615, rfl, rfl, rfl, HI.out, H2.out⟩
      case round =>
        obtain ⟨yes, no, rfl, rfl, rfl, hRh, hup⟩ := hrel
        obtain ⟨D, H, M, eD, w1', w2', w3', w4', hM, nM⟩ := half_num yes no hRh.out.lt (Nat.lt_of_le_of_lt hRh.out.hi (by decide))
        clear HI H2
        by_cases hD : 1 < D
        · have c2 : (1 : Int) < (D : Int) := by omega
          have n2 : (0 : Int) ≤ (D : Int) := by omega
          have kM := Hf.out M nM
          have Hm : Hid (yes < M ∧ M < no) := hM hD
          have HeD : Hid (no - yes = D) := eD
          clear hM hD eD nM
          by_cases hF : GFits gap slack tat now M
          · rw [decide_eq_true hF] at kM
            have HF : Hid (GFits gap slack tat now M) := hF
            clear hF
            go_wp2_with fail
            refine (kM _).mono ?_
            rintro e w5 ⟨rfl, u5⟩
            have H5 : Hid (Up w w5) := hup.out.trans u5
            clear kM u5 hup
            go_wp2
            go_roundg (no - M)
            case measure => have := Hm.out; omega
            case rel => exact ⟨M, no, rfl, rfl, rfl, ⟨Nat.le_trans hRh.out.lo (Nat.le_of_lt Hm.out.1), Hm.out.2, hRh.out.hi, HF.out, hRh.out.out⟩, H5⟩
          · rw [decide_eq_false hF] at kM
            have HF : Hid (¬ GFits gap slack tat now M) := hF
            clear hF
            go_wp2_with fail
            refine (kM _).mono ?_
            rintro e w5 ⟨rfl, u5⟩
            have H5 : Hid (Up w w5) := hup.out.trans u5
            clear kM u5 hup
            go_wp2
            go_roundg (M - yes)
            case measure => have := Hm.out; omega
            case rel => exact ⟨yes, M, rfl, rfl, rfl, ⟨hRh.out.lo, Hm.out.1, Nat.le_trans (Nat.le_of_lt Hm.out.2) hRh.out.hi, hRh.out.fit, HF.out⟩, H5⟩
        · have c2 : ¬ (1 : Int) < (D : Int) := by omega
          have e : yes = R := Fin.out yes no hRh.out (by have := hRh.out.lt; omega)
          subst e
          clear hM hD eD nM Fin Hf
          go_wp2
          go_ret
          exact ⟨rfl, hup.out⟩
  · rw [decide_eq_false h0] at k1
    have e : gBurst gap slack tat now = 0 := if_neg h0
    rw [e, show V 0 = .int .u64 0 from rfl]
    clear kf h0 e hg hs ht hw n1 nt
    go_enter Try.func41, Try.ntmps41
    go_wp2_with fail
    refine (k1 _).mono ?_
    rintro e w1 ⟨rfl, u1⟩
    go_wp2
    go_ret
    exact ⟨rfl, u1⟩

end Go.Proofs.Ythpcjhihifhmgaa
