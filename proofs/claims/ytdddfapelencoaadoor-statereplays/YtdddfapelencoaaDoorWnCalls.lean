/- window: what Index, Start, Left, Admit and Retry answer, in the numbers of WnNum. -/
import Derived.Test.YtdddfapelencoaaDoorGcSat
import Derived.Test.YtdddfapelencoaaDoorWnNum
import Derived.OwnWalk
set_option linter.unusedVariables false
namespace Go.Proofs.YtdddfapelencoaaDoor
open Go Go.RowKit

theorem wne_int (a : Nat) (h : a ≠ 0) : ((a : Int) == 0) = false := by simp; omega
theorem sub_w (a b : Nat) (h : b ≤ a) (ha : a < 18446744073709551616) : IntKind.u64.wrap ((a : Int) - (b : Int)) = ((a - b : Nat) : Int) := by rw [IntKind.wrap_u64]; omega
theorem wquot (a b : Nat) : (a : Int) / (b : Int) = ((a / b : Nat) : Int) := (Int.natCast_ediv ..).symm
theorem div_lt64 (a b : Nat) (ha : N64 a) : N64 (a / b) := Nat.lt_of_le_of_lt (Nat.div_le_self _ _) ha
theorem wstart_lt (span i : Nat) : N64 (wStart span i) := by unfold wStart N64; split <;> omega
theorem wstart_mul (span i : Nat) : mulN64 span i = wStart span i := by unfold mulN64 wStart; split <;> split <;> omega

theorem Index_any (span now : Nat) (hw : N64 now) (w : World) :
    Calls Tryd.prog 79 #[V span, V now] w fun e w' => e = .returned (V (now / span)) ∧ w' = w := by
  by_cases h : span = 0
  · subst h
    rw [Nat.div_zero, show V 0 = .int .u64 0 from rfl]
    go_enter Tryd.func79, Tryd.ntmps79
    go_wp2
    go_ret
    exact ⟨rfl, rfl⟩
  · have z1 := wne_int span h
    have q1 := wquot now span
    have q2 := wrap_n (now / span) (div_lt64 now span hw)
    have n1 : (0 : Int) < (span : Int) := by omega
    have n2 : (0 : Int) ≤ (now : Int) := by omega
    generalize now / span = q at *
    clear h hw
    go_enter Tryd.func79, Tryd.ntmps79
    go_wp2
    go_ret
    exact ⟨rfl, rfl⟩

theorem Start_any (span index : Nat) (hs : N64 span) (hi : N64 index) (w : World) :
    Calls Tryd.prog 80 #[V span, V index] w fun e w' => e = .returned (V (wStart span index)) ∧ Up w w' := by
  have k := Mul_any span index hs hi
  rw [wstart_mul] at k
  generalize wStart span index = s at *
  clear hs hi
  go_enter Tryd.func80, Tryd.ntmps80
  go_wp2_with fail
  refine (k _).mono ?_
  rintro e w1 ⟨rfl, u1⟩
  go_wp2
  go_ret
  exact ⟨rfl, u1⟩

theorem wleft_le (limit span index count now : Nat) : wLeft limit span index count now ≤ limit := by
  unfold wLeft; split
  · omega
  · split
    · omega
    · split <;> omega
theorem wleft_lt (limit span index count now : Nat) (hl : N64 limit) : N64 (wLeft limit span index count now) := Nat.lt_of_le_of_lt (wleft_le ..) hl

theorem wnLeft_any (limit span index count now : Nat) (hl : N64 limit) (hw : N64 now) (w : World) :
    Calls Tryd.prog 72 #[V limit, V span, V index, V count, V now] w fun e w' => e = .returned (V (wLeft limit span index count now)) ∧ w' = w := by
  have k1 := Index_any span now hw
  have k2 := Sub_any limit count hl
  by_cases h0 : span = 0
  · subst h0
    rw [show wLeft limit 0 index count now = 0 from if_pos rfl]
    rw [Nat.div_zero] at k1
    rw [show V 0 = Value.int .u64 0 from rfl] at *
    go_enter Tryd.func72, Tryd.ntmps72
    go_wp2_with fail
    refine (k1 _).mono ?_
    rintro e w1 ⟨rfl, rfl⟩
    go_wp2
    go_ret
    exact ⟨rfl, rfl⟩
  · have z1 := wne_int span h0
    have e : wLeft limit span index count now = if index < now / span then limit else if now / span < index ∨ limit ≤ count then 0 else limit - count := if_neg h0
    rw [e]
    generalize now / span = q at *
    clear h0 e hl hw
    rcases Nat.lt_trichotomy q index with h | h | h
    · rw [if_neg (by omega), if_pos (Or.inl h), show V 0 = Value.int .u64 0 from rfl]
      have c1 : (q : Int) < (index : Int) := by omega
      clear h
      go_enter Tryd.func72, Tryd.ntmps72
      go_wp2_with fail
      refine (k1 _).mono ?_
      rintro e w1 ⟨rfl, rfl⟩
      go_wp2
      go_ret
      exact ⟨rfl, rfl⟩
    · subst h
      rw [if_neg (by omega), show (if q < q ∨ limit ≤ count then 0 else limit - count) = limit - count by split <;> omega]
      generalize limit - count = d at *
      go_enter Tryd.func72, Tryd.ntmps72
      go_wp2_with fail
      refine (k1 _).mono ?_
      rintro e w1 ⟨rfl, rfl⟩
      go_wp2_with fail
      refine (k2 _).mono ?_
      rintro e w2 ⟨rfl, rfl⟩
      go_wp2
      go_ret
      exact ⟨rfl, rfl⟩
    · rw [if_pos h]
      have c1 : (index : Int) < (q : Int) := by omega
      have c2 : ¬ (q : Int) < (index : Int) := by omega
      clear h
      go_enter Tryd.func72, Tryd.ntmps72
      go_wp2_with fail
      refine (k1 _).mono ?_
      rintro e w1 ⟨rfl, rfl⟩
      go_wp2
      go_ret
      exact ⟨rfl, rfl⟩

theorem wix_lt (limit span index count now n : Nat) (hi : N64 index) (hw : N64 now) : N64 (wIx limit span index count now n) := by
  unfold wIx; split
  · exact div_lt64 _ _ hw
  · exact hi
theorem wct_lt (limit span index count now n : Nat) (hl : N64 limit) (hc : N64 count) (hn : N64 n) : N64 (wCt limit span index count now n) := by
  unfold wCt; split
  · rename_i h
    obtain ⟨h1, h2, h3⟩ := wfits_iff.1 h
    unfold N64 at *
    split <;> omega
  · exact hc

/-- Nothing is admitted: the index and the count as they were. -/
theorem Admit_not (limit span index count now n : Nat) (hl : N64 limit) (hw : N64 now) (h : ¬ WFits limit span index count now n) (w : World) :
    Calls Tryd.prog 70 #[V limit, V span, V index, V count, V now, V n] w fun e w' => e = .returned (.tuple #[V index, V count, .bool false]) ∧ w' = w := by
  by_cases h0 : n = 0
  · subst h0
    clear h
    go_enter Tryd.func70, Tryd.ntmps70
    go_wp2
    go_ret3
    exact ⟨rfl, rfl⟩
  · have k := wnLeft_any limit span index count now hl hw
    have z := wne_int n h0
    have c : ((wLeft limit span index count now : Nat) : Int) < (n : Int) := by unfold WFits at h; omega
    generalize wLeft limit span index count now = L at *
    clear h h0 hl hw
    go_enter Tryd.func70, Tryd.ntmps70
    go_wp2_with fail
    refine (k _).mono ?_
    rintro e w1 ⟨rfl, rfl⟩
    go_wp2
    go_ret3
    exact ⟨rfl, rfl⟩

theorem Admit_fits (limit span index count now n : Nat) (hl : N64 limit) (hw : N64 now) (hn : N64 n) (h : WFits limit span index count now n) (w : World) :
    Calls Tryd.prog 70 #[V limit, V span, V index, V count, V now, V n] w fun e w' => e = .returned (.tuple #[V (now / span), V (if now / span = index then count + n else n), .bool true]) ∧ w' = w := by
  have k := wnLeft_any limit span index count now hl hw
  have k2 := Index_any span now hw
  obtain ⟨h1, h2, h3⟩ := wfits_iff.1 h
  have z := wne_int n (by omega)
  have c : ¬ ((wLeft limit span index count now : Nat) : Int) < (n : Int) := by have := h.2; omega
  generalize wLeft limit span index count now = L at *
  generalize now / span = q at *
  have w1 : count + n ≤ limit → IntKind.u64.wrap ((count : Int) + (n : Int)) = ((count + n : Nat) : Int) := fun hh => by rw [add_n]; exact wrap_n _ (by unfold N64 at hl; omega)
  rcases h3 with ⟨h3, h4⟩ | ⟨h3, h4⟩
  · rw [if_neg (by omega)]
    have c2 : (index : Int) < (q : Int) := by omega
    clear h h1 h2 h3 h4 w1 hl hw hn
    go_enter Tryd.func70, Tryd.ntmps70
    go_wp2_with fail
    refine (k _).mono ?_
    rintro e w1 ⟨rfl, rfl⟩
    go_wp2_with fail
    refine (k2 _).mono ?_
    rintro e w1 ⟨rfl, rfl⟩
    go_wp2
    go_ret3
    exact ⟨rfl, rfl⟩
  · subst h3
    rw [if_pos rfl]
    have w1 := w1 h4
    generalize count + n = s at *
    clear h h1 h2 h4 hl hw hn
    go_enter Tryd.func70, Tryd.ntmps70
    go_wp2_with fail
    refine (k _).mono ?_
    rintro e w1 ⟨rfl, rfl⟩
    go_wp2_with fail
    refine (k2 _).mono ?_
    rintro e w1 ⟨rfl, rfl⟩
    go_wp2
    go_ret3
    exact ⟨rfl, rfl⟩

theorem wAdmit_any (limit span index count now n : Nat) (hl : N64 limit) (hw : N64 now) (hn : N64 n) (w : World) :
    Calls Tryd.prog 70 #[V limit, V span, V index, V count, V now, V n] w fun e w' => e = .returned (.tuple #[V (wIx limit span index count now n), V (wCt limit span index count now n), .bool (decide (WFits limit span index count now n))]) ∧ w' = w := by
  by_cases h : WFits limit span index count now n
  · rw [decide_eq_true h, wIx, if_pos h, wCt, if_pos h]
    exact Admit_fits limit span index count now n hl hw hn h w
  · rw [decide_eq_false h, wIx, if_neg h, wCt, if_neg h]
    exact Admit_not limit span index count now n hl hw h w

/-- The program's least time: now, or the start of the first window that has room. -/
theorem wretry_prog (limit span index count now n : Nat) (hw : N64 now) (hi : N64 index) (h1 : 1 ≤ n) (h2 : n ≤ limit) (h3 : 1 ≤ span) :
    (if now < wStart span (if limit - count < n then addN index 1 else index) then wStart span (if limit - count < n then addN index 1 else index) else now) = wRetry limit span index count now n := by
  have hM : ∀ t, t ≤ 18446744073709551615 → t / span ≤ 18446744073709551615 := fun t ht => Nat.le_trans (Nat.div_le_self _ _) ht
  refine least_one (limit := limit) (span := span) (index := index) (count := count) (now := now) (n := n) ?_ (wretry_least limit span index count now n (by unfold N64 at hw; omega) (by unfold N64 at hi; omega))
  unfold N64 at hw hi
  have key : ∀ F, F ≤ 18446744073709551615 → (∀ t, t < 18446744073709551615 → (WFits limit span index count t n ↔ F ≤ t / span)) → WLeast limit span index count now n (if now < wStart span F then wStart span F else now) := by
    intro F hF hall
    have hS : wStart span F ≤ 18446744073709551615 := by have := wstart_lt span F; unfold N64 at this; omega
    have hb : ∀ t, t < 18446744073709551615 → t < wStart span F → ¬ F ≤ t / span := fun t ht hlt hle => by
      have : ¬ t / span < F := by omega
      rw [win_lt span t F h3] at this
      unfold wStart at hlt
      split at hlt <;> omega
    have hf : ∀ t, t < 18446744073709551615 → wStart span F ≤ t → F ≤ t / span := fun t ht hle => by
      rcases Nat.lt_or_ge (t / span) F with h | h
      · rw [win_lt span t F h3] at h
        unfold wStart at hle
        split at hle <;> omega
      · exact h
    split
    · rename_i hlt
      exact ⟨by omega, hS, fun t a b hx => hb t (by omega) b ((hall t (by omega)).1 hx), fun hne => (hall _ (by omega)).2 (hf _ (by omega) (Nat.le_refl _))⟩
    · rename_i hlt
      exact ⟨Nat.le_refl _, by omega, fun t a b => by omega, fun hne => (hall _ (by omega)).2 (hf _ (by omega) (by omega))⟩
  by_cases hr : limit - count < n
  · rw [if_pos hr]
    have e : addN index 1 = if index + 1 < 18446744073709551616 then index + 1 else 18446744073709551615 := rfl
    refine key _ (by rw [e]; split <;> omega) fun t ht => ?_
    rw [wfits_iff, e]
    have hq := Nat.div_le_self t span
    generalize t / span = q at *
    split <;> omega
  · rw [if_neg hr]
    refine key _ (by omega) fun t ht => ?_
    rw [wfits_iff]
    generalize t / span = q at *
    omega

theorem wretry_lt (limit span index count now n : Nat) (hw : N64 now) (hi : N64 index) : N64 (wRetry limit span index count now n) := by
  have := (wretry_least limit span index count now n (by unfold N64 at hw; omega) (by unfold N64 at hi; omega)).le
  unfold N64; omega

theorem wRetry_never (limit span index count now n : Nat) (hl : N64 limit) (h : n = 0 ∨ limit < n ∨ span = 0) (w : World) :
    Calls Tryd.prog 71 #[V limit, V span, V index, V count, V now, V n] w fun e w' => e = .returned (.int .u64 18446744073709551615) ∧ Up w w' := by
  by_cases h0 : span = 0
  · subst h0
    clear h
    go_enter Tryd.func71, Tryd.ntmps71
    go_wp2
    go_ret
    exact ⟨rfl, Up.refl _⟩
  · have z := wne_int span h0
    by_cases h1 : n = 0
    · subst h1
      clear h h0
      go_enter Tryd.func71, Tryd.ntmps71
      go_wp2
      go_ret
      exact ⟨rfl, Up.refl _⟩
    · have z1 := wne_int n h1
      have c : (limit : Int) < (n : Int) := by omega
      clear h h0 h1 hl
      go_enter Tryd.func71, Tryd.ntmps71
      go_wp2
      go_ret
      exact ⟨rfl, Up.refl _⟩

set_option maxHeartbeats 800000 in
theorem wRetry_any (limit span index count now n : Nat) (hl : N64 limit) (hs : N64 span) (hi : N64 index) (hw : N64 now) (w : World) :
    Calls Tryd.prog 71 #[V limit, V span, V index, V count, V now, V n] w fun e w' => e = .returned (V (wRetry limit span index count now n)) ∧ Up w w' := by
  by_cases h : n = 0 ∨ limit < n ∨ span = 0
  · rw [show wRetry limit span index count now n = 18446744073709551615 from if_pos h]
    exact wRetry_never limit span index count now n hl h w
  · have hp := wretry_prog limit span index count now n hw hi (by omega) (by omega) (by omega)
    have k1 := Sub_any limit count hl
    have k2 := Add_any index 1 hi (by unfold N64; omega)
    rw [show V 1 = .int .u64 1 from rfl] at k2
    have z := wne_int span (by omega)
    have z1 := wne_int n (by omega)
    have c : ¬ (limit : Int) < (n : Int) := by omega
    have ha : N64 (addN index 1) := by unfold addN N64 at *; split <;> omega
    have k3 := Start_any span (addN index 1) hs ha
    have k4 := Start_any span index hs hi
    by_cases hr : limit - count < n
    · rw [if_pos hr] at hp
      have c2 : ((limit - count : Nat) : Int) < (n : Int) := by omega
      generalize limit - count = D at *
      generalize addN index 1 = F at *
      generalize wStart span F = S at *
      generalize wRetry limit span index count now n = R at *
      clear h hr k4 ha hl hs hi hw
      by_cases hlt : now < S
      · rw [if_pos hlt] at hp
        subst hp
        go_enter Tryd.func71, Tryd.ntmps71
        go_wp2_with fail
        refine (k1 _).mono ?_
        rintro e w1 ⟨rfl, rfl⟩
        go_wp2_with fail
        refine (k2 _).mono ?_
        rintro e w1 ⟨rfl, rfl⟩
        go_wp2_with fail
        refine (k3 _).mono ?_
        rintro e w1 ⟨rfl, u1⟩
        go_wp2
        go_ret
        exact ⟨rfl, u1⟩
      · rw [if_neg hlt] at hp
        subst hp
        go_enter Tryd.func71, Tryd.ntmps71
        go_wp2_with fail
        refine (k1 _).mono ?_
        rintro e w1 ⟨rfl, rfl⟩
        go_wp2_with fail
        refine (k2 _).mono ?_
        rintro e w1 ⟨rfl, rfl⟩
        go_wp2_with fail
        refine (k3 _).mono ?_
        rintro e w1 ⟨rfl, u1⟩
        go_wp2
        go_ret
        exact ⟨rfl, u1⟩
    · rw [if_neg hr] at hp
      have c2 : ¬ ((limit - count : Nat) : Int) < (n : Int) := by omega
      generalize limit - count = D at *
      generalize wStart span index = S at *
      generalize wRetry limit span index count now n = R at *
      clear h hr k2 k3 ha hl hs hi hw
      by_cases hlt : now < S
      · rw [if_pos hlt] at hp
        subst hp
        go_enter Tryd.func71, Tryd.ntmps71
        go_wp2_with fail
        refine (k1 _).mono ?_
        rintro e w1 ⟨rfl, rfl⟩
        go_wp2_with fail
        refine (k4 _).mono ?_
        rintro e w1 ⟨rfl, u1⟩
        go_wp2
        go_ret
        exact ⟨rfl, u1⟩
      · rw [if_neg hlt] at hp
        subst hp
        go_enter Tryd.func71, Tryd.ntmps71
        go_wp2_with fail
        refine (k1 _).mono ?_
        rintro e w1 ⟨rfl, rfl⟩
        go_wp2_with fail
        refine (k4 _).mono ?_
        rintro e w1 ⟨rfl, u1⟩
        go_wp2
        go_ret
        exact ⟨rfl, u1⟩
end Go.Proofs.YtdddfapelencoaaDoor
