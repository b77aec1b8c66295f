/- window: the reference's answers are the same numbers. -/
import Derived.Test.YthpcjhihifhmgaaWnCalls
set_option linter.unusedVariables false
namespace Go.Proofs.Ythpcjhihifhmgaa
open Go Go.RowKit


/-- span times index fits. -/
theorem rfits_any5 (span index : Nat) (hs : N64 span) (w : World) :
    Calls Try.prog 70 #[V span, V index] w fun e w' => e = .returned (.bool (decide (span * index ≤ 18446744073709551615))) ∧ w' = w := by
  by_cases h : span = 0
  · subst h
    rw [show decide (0 * index ≤ 18446744073709551615) = true from decide_eq_true (by omega)]
    go_enter Try.func70, Try.ntmps70
    go_wp2
    go_ret
    exact ⟨rfl, rfl⟩
  · have z1 := wne_int span h
    have q1 := wquot 18446744073709551615 span
    have q2 := wrap_n (18446744073709551615 / span) (div_lt64 18446744073709551615 span (by unfold N64; omega))
    have n1 : (0 : Int) < (span : Int) := by omega
    have he : span * index ≤ 18446744073709551615 ↔ index ≤ 18446744073709551615 / span := by
      rw [Nat.le_div_iff_mul_le (by omega), Nat.mul_comm]
    rw [show decide (span * index ≤ 18446744073709551615) = decide (index ≤ 18446744073709551615 / span) from decide_eq_decide.2 he]
    obtain ⟨q, hq⟩ : ∃ q, 18446744073709551615 / span = q := ⟨_, rfl⟩
    rw [hq] at q1 q2 ⊢
    rw [show ((18446744073709551615 : Nat) : Int) = 18446744073709551615 from rfl] at q1
    clear h hs he hq
    by_cases hc : index ≤ q
    · rw [decide_eq_true hc]
      have c1 : (index : Int) ≤ (q : Int) := by omega
      clear hc
      go_enter Try.func70, Try.ntmps70
      go_wp2
      go_ret
      exact ⟨rfl, rfl⟩
    · rw [decide_eq_false hc]
      have c1 : ¬ (index : Int) ≤ (q : Int) := by omega
      clear hc
      go_enter Try.func70, Try.ntmps70
      go_wp2
      go_ret
      exact ⟨rfl, rfl⟩

theorem rStart_any (span index : Nat) (hs : N64 span) (w : World) :
    Calls Try.prog 54 #[V span, V index] w fun e w' => e = .returned (V (wStart span index)) ∧ w' = w := by
  have k := rfits_any5 span index hs
  have e : wStart span index = if span * index ≤ 18446744073709551615 then span * index else 18446744073709551615 := rfl
  rw [e]
  by_cases h : span * index ≤ 18446744073709551615
  · rw [decide_eq_true h] at k
    rw [if_pos h]
    have w1 : IntKind.u64.wrap ((span : Int) * (index : Int)) = ((span * index : Nat) : Int) := by rw [mul_n]; exact wrap_n _ (by omega)
    generalize span * index = p at *
    clear h e hs
    go_enter Try.func54, Try.ntmps54
    go_wp2_with fail
    refine (k _).mono ?_
    rintro e w1 ⟨rfl, rfl⟩
    go_wp2
    go_ret
    exact ⟨rfl, rfl⟩
  · rw [decide_eq_false h] at k
    rw [if_neg h, show V 18446744073709551615 = .int .u64 18446744073709551615 from rfl]
    clear h e hs
    go_enter Try.func54, Try.ntmps54
    go_wp2_with fail
    refine (k _).mono ?_
    rintro e w1 ⟨rfl, rfl⟩
    go_wp2
    go_ret
    exact ⟨rfl, rfl⟩

theorem rLeft_any (limit span index count now : Nat) (hl : N64 limit) (hw : N64 now) (w : World) :
    Calls Try.prog 42 #[V limit, V span, V index, V count, V now] w fun e w' => e = .returned (V (wLeft limit span index count now)) ∧ w' = w := by
  by_cases h0 : span = 0
  · subst h0
    rw [show wLeft limit 0 index count now = 0 from if_pos rfl]
    rw [show V 0 = Value.int .u64 0 from rfl] at *
    go_enter Try.func42, Try.ntmps42
    go_wp2
    go_ret
    exact ⟨rfl, rfl⟩
  · have z1 := wne_int span h0
    have q1 := wquot now span
    have q2 := wrap_n (now / span) (div_lt64 now span hw)
    have n1 : (0 : Int) < (span : Int) := by omega
    have n2 : (0 : Int) ≤ (now : Int) := by omega
    have e : wLeft limit span index count now = if index < now / span then limit else if now / span < index ∨ limit ≤ count then 0 else limit - count := if_neg h0
    rw [e]
    generalize now / span = q at *
    clear h0 e hw
    rcases Nat.lt_trichotomy q index with h | h | h
    · rw [if_neg (by omega), if_pos (Or.inl h), show V 0 = Value.int .u64 0 from rfl]
      have c1 : (q : Int) < (index : Int) := by omega
      have c2 : ¬ (index : Int) < (q : Int) := by omega
      clear h hl
      go_enter Try.func42, Try.ntmps42
      go_wp2
      go_ret
      exact ⟨rfl, rfl⟩
    · subst h
      rw [if_neg (by omega)]
      by_cases hc : limit ≤ count
      · rw [if_pos (Or.inr hc), show V 0 = Value.int .u64 0 from rfl]
        have c1 : (limit : Int) ≤ (count : Int) := by omega
        clear hc hl
        go_enter Try.func42, Try.ntmps42
        go_wp2
        go_ret
        exact ⟨rfl, rfl⟩
      · rw [if_neg (by omega)]
        have c1 : ¬ (limit : Int) ≤ (count : Int) := by omega
        have d1 := sub_w limit count (by omega) hl
        generalize limit - count = d at *
        clear hc hl
        go_enter Try.func42, Try.ntmps42
        go_wp2
        go_ret
        exact ⟨rfl, rfl⟩
    · rw [if_pos h]
      have c1 : (index : Int) < (q : Int) := by omega
      have c2 : ¬ (q : Int) < (index : Int) := by omega
      clear h hl
      go_enter Try.func42, Try.ntmps42
      go_wp2
      go_ret
      exact ⟨rfl, rfl⟩

theorem rAdmit_not (limit span index count now n : Nat) (hl : N64 limit) (hw : N64 now) (h : ¬ WFits limit span index count now n) (w : World) :
    Calls Try.prog 39 #[V limit, V span, V index, V count, V now, V n] w fun e w' => e = .returned (.tuple #[V index, V count, .bool false]) ∧ w' = w := by
  by_cases h0 : n = 0
  · subst h0
    clear h
    go_enter Try.func39, Try.ntmps39
    go_wp2
    go_ret3
    exact ⟨rfl, rfl⟩
  · have k := rLeft_any limit span index count now hl hw
    have z := wne_int n h0
    have c : ((wLeft limit span index count now : Nat) : Int) < (n : Int) := by unfold WFits at h; omega
    generalize wLeft limit span index count now = L at *
    clear h h0 hl hw
    go_enter Try.func39, Try.ntmps39
    go_wp2_with fail
    refine (k _).mono ?_
    rintro e w1 ⟨rfl, rfl⟩
    go_wp2
    go_ret3
    exact ⟨rfl, rfl⟩

theorem rAdmit_fits (limit span index count now n : Nat) (hl : N64 limit) (hw : N64 now) (hn : N64 n) (h : WFits limit span index count now n) (w : World) :
    Calls Try.prog 39 #[V limit, V span, V index, V count, V now, V n] w fun e w' => e = .returned (.tuple #[V (now / span), V (if now / span = index then count + n else n), .bool true]) ∧ w' = w := by
  have k := rLeft_any limit span index count now hl hw
  obtain ⟨h1, h2, h3⟩ := wfits_iff.1 h
  have z := wne_int n (by omega)
  have z1 := wne_int span (by omega)
  have c : ¬ ((wLeft limit span index count now : Nat) : Int) < (n : Int) := by have := h.2; omega
  have q1 := wquot now span
  have q2 := wrap_n (now / span) (div_lt64 now span hw)
  have n1 : (0 : Int) < (span : Int) := by omega
  have n2 : (0 : Int) ≤ (now : Int) := by omega
  generalize wLeft limit span index count now = L at *
  generalize now / span = q at *
  have w1 : count + n ≤ limit → IntKind.u64.wrap ((count : Int) + (n : Int)) = ((count + n : Nat) : Int) := fun hh => by rw [add_n]; exact wrap_n _ (by unfold N64 at hl; omega)
  rcases h3 with ⟨h3, h4⟩ | ⟨h3, h4⟩
  · rw [if_neg (by omega)]
    have c2 : ((q : Int) == (index : Int)) = false := by simp; omega
    clear h h1 h2 h3 h4 w1 hl hw hn
    go_enter Try.func39, Try.ntmps39
    go_wp2_with fail
    refine (k _).mono ?_
    rintro e w1 ⟨rfl, rfl⟩
    go_wp2
    go_ret3
    exact ⟨rfl, rfl⟩
  · subst h3
    rw [if_pos rfl]
    have w1 := w1 h4
    generalize count + n = s at *
    clear h h1 h2 h4 hl hw hn
    go_enter Try.func39, Try.ntmps39
    go_wp2_with fail
    refine (k _).mono ?_
    rintro e w1 ⟨rfl, rfl⟩
    go_wp2
    go_ret3
    exact ⟨rfl, rfl⟩

theorem rAdmit_any5 (limit span index count now n : Nat) (hl : N64 limit) (hw : N64 now) (hn : N64 n) (w : World) :
    Calls Try.prog 39 #[V limit, V span, V index, V count, V now, V n] w fun e w' => e = .returned (.tuple #[V (wIx limit span index count now n), V (wCt limit span index count now n), .bool (decide (WFits limit span index count now n))]) ∧ w' = w := by
  by_cases h : WFits limit span index count now n
  · rw [decide_eq_true h, wIx, if_pos h, wCt, if_pos h]
    exact rAdmit_fits limit span index count now n hl hw hn h w
  · rw [decide_eq_false h, wIx, if_neg h, wCt, if_neg h]
    exact rAdmit_not limit span index count now n hl hw h w

theorem rRetry_never5 (limit span index count now n : Nat) (h : n = 0 ∨ limit < n ∨ span = 0) (w : World) :
    Calls Try.prog 40 #[V limit, V span, V index, V count, V now, V n] w fun e w' => e = .returned (.int .u64 18446744073709551615) ∧ w' = w := by
  by_cases h0 : n = 0
  · subst h0
    clear h
    go_enter Try.func40, Try.ntmps40
    go_wp2
    go_ret
    exact ⟨rfl, rfl⟩
  · have z := wne_int n h0
    by_cases h1 : limit < n
    · have c : (limit : Int) < (n : Int) := by omega
      clear h h0 h1
      go_enter Try.func40, Try.ntmps40
      go_wp2
      go_ret
      exact ⟨rfl, rfl⟩
    · have c : ¬ (limit : Int) < (n : Int) := by omega
      obtain rfl : span = 0 := by omega
      clear h h0 h1
      go_enter Try.func40, Try.ntmps40
      go_wp2
      go_ret
      exact ⟨rfl, rfl⟩

set_option maxHeartbeats 1600000 in
/-- The reference's least time where there is one to look for: by its own cases. -/
theorem rRetry_some (limit span index count now n q I C : Nat) (o : Bool) (z : ((n : Int) == 0) = false) (c : ¬ (limit : Int) < (n : Int)) (z1 : ((span : Int) == 0) = false)
    (k : ∀ w, Calls Try.prog 39 #[V limit, V span, V index, V count, V now, V n] w fun e w' => e = .returned (.tuple #[V I, V C, .bool o]) ∧ w' = w)
    (q1 : (now : Int) / (span : Int) = (q : Int)) (q2 : IntKind.u64.wrap (q : Int) = (q : Int)) (R : Nat)
    (hc : (o = true ∧ R = now) ∨
      (o = false ∧ (q : Int) < (index : Int) ∧ (count : Int) ≤ (limit : Int) ∧ (∃ D : Nat, IntKind.u64.wrap ((limit : Int) - (count : Int)) = (D : Int) ∧ (n : Int) ≤ (D : Int)) ∧ (∀ w, Calls Try.prog 54 #[V span, V index] w fun e w' => e = .returned (V R) ∧ w' = w)) ∨
      (o = false ∧ (¬ (q : Int) < (index : Int) ∨ ((q : Int) < (index : Int) ∧ ¬ (count : Int) ≤ (limit : Int)) ∨ ((q : Int) < (index : Int) ∧ (count : Int) ≤ (limit : Int) ∧ ∃ D : Nat, IntKind.u64.wrap ((limit : Int) - (count : Int)) = (D : Int) ∧ ¬ (n : Int) ≤ (D : Int))) ∧
        ((((index : Int) == 18446744073709551615) = true ∧ V R = .int .u64 18446744073709551615) ∨ (((index : Int) == 18446744073709551615) = false ∧ ∃ J : Nat, IntKind.u64.wrap ((index : Int) + 1) = (J : Int) ∧ (∀ w, Calls Try.prog 54 #[V span, V J] w fun e w' => e = .returned (V R) ∧ w' = w))))) (w : World) :
    Calls Try.prog 40 #[V limit, V span, V index, V count, V now, V n] w fun e w' => e = .returned (V R) ∧ w' = w := by
  have n1 : (0 : Int) < (span : Int) := by
    rcases Nat.eq_zero_or_pos span with e | e
    · subst e; cases z1
    · omega
  have n2 : (0 : Int) ≤ (now : Int) := by omega
  rcases hc with ⟨rfl, rfl⟩ | ⟨rfl, c1, c2, ⟨D, d1, c3⟩, k2⟩ | ⟨rfl, hc, h2⟩
  · go_enter Try.func40, Try.ntmps40
    go_wp2_with fail
    refine (k _).mono ?_
    rintro e w1 ⟨rfl, rfl⟩
    go_wp2
    go_ret
    exact ⟨rfl, rfl⟩
  · go_enter Try.func40, Try.ntmps40
    go_wp2_with fail
    refine (k _).mono ?_
    rintro e w1 ⟨rfl, rfl⟩
    go_wp2_with fail
    refine (k2 _).mono ?_
    rintro e w2 ⟨rfl, rfl⟩
    go_wp2
    go_ret
    exact ⟨rfl, rfl⟩
  · rcases hc with c1 | ⟨c1, c2⟩ | ⟨c1, c2, D, d1, c3⟩ <;> rcases h2 with ⟨c4, h5⟩ | ⟨c4, J, d2, k2⟩
    · rw [h5]
      clear h5
      go_enter Try.func40, Try.ntmps40
      go_wp2_with fail
      refine (k _).mono ?_
      rintro e w1 ⟨rfl, rfl⟩
      go_wp2
      go_ret
      exact ⟨rfl, rfl⟩
    · go_enter Try.func40, Try.ntmps40
      go_wp2_with fail
      refine (k _).mono ?_
      rintro e w1 ⟨rfl, rfl⟩
      go_wp2_with fail
      refine (k2 _).mono ?_
      rintro e w2 ⟨rfl, rfl⟩
      go_wp2
      go_ret
      exact ⟨rfl, rfl⟩
    · rw [h5]
      clear h5
      go_enter Try.func40, Try.ntmps40
      go_wp2_with fail
      refine (k _).mono ?_
      rintro e w1 ⟨rfl, rfl⟩
      go_wp2
      go_ret
      exact ⟨rfl, rfl⟩
    · go_enter Try.func40, Try.ntmps40
      go_wp2_with fail
      refine (k _).mono ?_
      rintro e w1 ⟨rfl, rfl⟩
      go_wp2_with fail
      refine (k2 _).mono ?_
      rintro e w2 ⟨rfl, rfl⟩
      go_wp2
      go_ret
      exact ⟨rfl, rfl⟩
    · rw [h5]
      clear h5
      go_enter Try.func40, Try.ntmps40
      go_wp2_with fail
      refine (k _).mono ?_
      rintro e w1 ⟨rfl, rfl⟩
      go_wp2
      go_ret
      exact ⟨rfl, rfl⟩
    · go_enter Try.func40, Try.ntmps40
      go_wp2_with fail
      refine (k _).mono ?_
      rintro e w1 ⟨rfl, rfl⟩
      go_wp2_with fail
      refine (k2 _).mono ?_
      rintro e w2 ⟨rfl, rfl⟩
      go_wp2
      go_ret
      exact ⟨rfl, rfl⟩

theorem rRetry_any5 (limit span index count now n : Nat) (hl : N64 limit) (hs : N64 span) (hi : N64 index) (hw : N64 now) (hn : N64 n) (w : World) :
    Calls Try.prog 40 #[V limit, V span, V index, V count, V now, V n] w fun e w' => e = .returned (V (wRetry limit span index count now n)) ∧ w' = w := by
  by_cases h : n = 0 ∨ limit < n ∨ span = 0
  · rw [show wRetry limit span index count now n = 18446744073709551615 from if_pos h]
    exact rRetry_never5 limit span index count now n h w
  · have e : wRetry limit span index count now n = if WFits limit span index count now n then now else if now / span < index ∧ count + n ≤ limit then wStart span index else if index = 18446744073709551615 then 18446744073709551615 else wStart span (index + 1) := if_neg h
    refine rRetry_some limit span index count now n (now / span) _ _ _ (wne_int n (by omega)) (by omega) (wne_int span (by omega)) (rAdmit_any5 limit span index count now n hl hw hn) (wquot now span) (wrap_n _ (div_lt64 now span hw)) _ ?_ w
    rw [e]
    unfold N64 at hi hl
    by_cases hf : WFits limit span index count now n
    · left
      rw [if_pos hf]
      exact ⟨decide_eq_true hf, rfl⟩
    · rw [if_neg hf, decide_eq_false hf]
      by_cases h2 : now / span < index ∧ count + n ≤ limit
      · right; left
        rw [if_pos h2]
        exact ⟨rfl, by omega, by omega, ⟨limit - count, sub_w limit count (by omega) hl, by omega⟩, rStart_any span index hs⟩
      · right; right
        rw [if_neg h2]
        refine ⟨rfl, ?_, ?_⟩
        · by_cases h3 : now / span < index
          · by_cases h4 : count ≤ limit
            · right; right
              exact ⟨by omega, by omega, limit - count, sub_w limit count h4 hl, by omega⟩
            · right; left; exact ⟨by omega, by omega⟩
          · left; omega
        · by_cases h3 : index = 18446744073709551615
          · left
            rw [if_pos h3, h3]
            exact ⟨rfl, rfl⟩
          · right
            rw [if_neg h3]
            refine ⟨by simp; omega, index + 1, ?_, rStart_any span (index + 1) hs⟩
            rw [show (index : Int) + 1 = ((index + 1 : Nat) : Int) from rfl]
            exact wrap_n _ (by omega)
end Go.Proofs.Ythpcjhihifhmgaa
