/- sat: what the calls of the package answer, of numbers of 64 and 128 bits. -/
import Derived.Test.YtknanpnbpmmlgaaSatDiv
set_option linter.unusedVariables false
namespace Go.Proofs.Ytknanpnbpmmlgaa
open Go Go.RowKit

/-- A number of 128 bits as a value of sat's Wide. -/
abbrev Wd (n : Nat) : Value := .agg #[V (hiN n), V (loN n)]

/-- The bounds of the numbers. -/
abbrev N64 (n : Nat) : Prop := n < 18446744073709551616
abbrev N128 (n : Nat) : Prop := n < 340282366920938463463374607431768211456

def plusN (a b : Nat) : Nat := if a + b < 340282366920938463463374607431768211456 then a + b else 340282366920938463463374607431768211455
def minusN (a b : Nat) : Nat := a - b
def cmpN (a b : Nat) : Int := if a < b then -1 else if a = b then 0 else 1

theorem plus_lt (a b : Nat) : N128 (plusN a b) := by unfold plusN N128; split <;> omega
theorem minus_lt (a b : Nat) (h : N128 a) : N128 (minusN a b) := by unfold minusN N128 at *; omega

/-- The two additions of halves. -/
theorem plus_halves (a b : Nat) (ha : N128 a) (hb : N128 b) : ∃ L C H O : Nat, C ≤ 1 ∧
    (loN a + loN b + 0) % 18446744073709551616 = L ∧ (loN a + loN b + 0) / 18446744073709551616 = C ∧ (hiN a + hiN b + C) % 18446744073709551616 = H ∧ (hiN a + hiN b + C) / 18446744073709551616 = O ∧
    (O = 1 ∧ plusN a b = 340282366920938463463374607431768211455 ∨ O = 0 ∧ hiN (plusN a b) = H ∧ loN (plusN a b) = L) := by
  refine ⟨_, _, _, _, ?_, rfl, rfl, rfl, rfl, ?_⟩
  · have := lo_lt a; have := lo_lt b; omega
  · unfold plusN hiN loN N128 at *
    split <;> omega

theorem up3 (w : World) (a b c : Obj) : Up w (((w.alloc a).alloc b).alloc c) := (Up.alloc _ _).trans ((Up.alloc _ _).trans (Up.alloc _ _))
theorem up2 (w : World) (a b : Obj) : Up w ((w.alloc a).alloc b) := (Up.alloc _ _).trans (Up.alloc _ _)

theorem wd_top : Wd 340282366920938463463374607431768211455 = .agg #[.int .u64 18446744073709551615, .int .u64 18446744073709551615] := rfl
theorem wd_zero : Wd 0 = .agg #[.int .u64 0, .int .u64 0] := rfl

set_option maxHeartbeats 400000 in
theorem Plus_any (a b : Nat) (ha : N128 a) (hb : N128 b) (w : World) :
    Calls Try.prog 13 #[Wd a, Wd b] w fun e w' => e = .returned (Wd (plusN a b)) ∧ Up w w' := by
  obtain ⟨L, C, H, O, hC, e1, e2, e3, e4, h⟩ := plus_halves a b ha hb
  have s1 := fun w => add64_run (loN a) (loN b) 0 (by omega) w
  have s2 := fun w => add64_run (hiN a) (hiN b) C hC w
  rw [e1, e2] at s1
  rw [e3, e4] at s2
  rw [show V 0 = Value.int .u64 0 from rfl] at s1
  clear e1 e2 e3 e4 hC ha hb
  rcases h with ⟨rfl, hp⟩ | ⟨rfl, h1, h2⟩
  · rw [hp, wd_top]
    clear hp
    go_enter Try.func13, Try.ntmps13
    go_wp2_with (simp only [s1, s2])
    exact bodyPost_ret (v := .agg #[.int .u64 18446744073709551615, .int .u64 18446744073709551615]) (by simp [results, Try.results13, go_sem]) rfl ⟨rfl, up3 _ _ _ _⟩
  · have hW : Wd (plusN a b) = .agg #[V H, V L] := by simp only [Wd, h1, h2]
    rw [hW]
    clear h1 h2 hW
    go_enter Try.func13, Try.ntmps13
    go_wp2_with (simp only [s1, s2])
    exact bodyPost_ret (v := .agg #[V H, V L]) (by simp [results, Try.results13, go_sem]) rfl ⟨rfl, up3 _ _ _ _⟩

/-- The two subtractions of halves. -/
theorem minus_halves (a b : Nat) (ha : N128 a) (hb : N128 b) : ∃ L C H O : Nat, C ≤ 1 ∧
    (loN a + 18446744073709551616 - loN b - 0) % 18446744073709551616 = L ∧ (if loN a < loN b + 0 then 1 else 0) = C ∧ (hiN a + 18446744073709551616 - hiN b - C) % 18446744073709551616 = H ∧ (if hiN a < hiN b + C then 1 else 0) = O ∧
    (O = 1 ∧ minusN a b = 0 ∨ O = 0 ∧ hiN (minusN a b) = H ∧ loN (minusN a b) = L) := by
  refine ⟨_, _, _, _, ?_, rfl, rfl, rfl, rfl, ?_⟩
  · split <;> omega
  · have ea := halves a
    have eb := halves b
    have la := lo_lt a
    have lb := lo_lt b
    have ha' := hi_lt a ha
    have hb' := hi_lt b hb
    have hd : minusN a b = a - b := rfl
    generalize minusN a b = m at hd ⊢
    have hm := halves m
    have lm := lo_lt m
    generalize hiN a = ah at *
    generalize hiN b = bh at *
    generalize loN a = al at *
    generalize loN b = bl at *
    generalize hiN m = mh at *
    generalize loN m = ml at *
    subst ea eb
    split <;> split <;> first | (left; exact ⟨rfl, by omega⟩) | (right; exact ⟨rfl, by omega, by omega⟩)

set_option maxHeartbeats 400000 in
theorem Minus_any (a b : Nat) (ha : N128 a) (hb : N128 b) (w : World) :
    Calls Try.prog 15 #[Wd a, Wd b] w fun e w' => e = .returned (Wd (minusN a b)) ∧ Up w w' := by
  obtain ⟨L, C, H, O, hC, e1, e2, e3, e4, h⟩ := minus_halves a b ha hb
  have s1 := fun w => sub64_run (loN a) (loN b) 0 (by omega) w
  have s2 := fun w => sub64_run (hiN a) (hiN b) C hC w
  rw [e1, e2] at s1
  rw [e3, e4] at s2
  rw [show V 0 = Value.int .u64 0 from rfl] at s1
  clear e1 e2 e3 e4 hC ha hb
  rcases h with ⟨rfl, hp⟩ | ⟨rfl, h1, h2⟩
  · rw [hp, wd_zero]
    clear hp
    go_enter Try.func15, Try.ntmps15
    go_wp2_with (simp only [s1, s2])
    exact bodyPost_ret (v := .agg #[.int .u64 0, .int .u64 0]) (by simp [results, Try.results15, go_sem]) rfl ⟨rfl, up3 _ _ _ _⟩
  · have hW : Wd (minusN a b) = .agg #[V H, V L] := by simp only [Wd, h1, h2]
    rw [hW]
    clear h1 h2 hW
    go_enter Try.func15, Try.ntmps15
    go_wp2_with (simp only [s1, s2])
    exact bodyPost_ret (v := .agg #[V H, V L]) (by simp [results, Try.results15, go_sem]) rfl ⟨rfl, up3 _ _ _ _⟩

theorem Of_any (x : Nat) (hx : N64 x) (w : World) : Calls Try.prog 14 #[V x] w fun e w' => e = .returned (Wd x) ∧ Up w w' := by
  have hW : Wd x = .agg #[.int .u64 0, V x] := by
    have e1 : hiN x = 0 := by unfold hiN N64 at *; omega
    have e2 : loN x = x := by unfold loN N64 at *; omega
    simp only [Wd, e1, e2]; rfl
  rw [hW]
  clear hW hx
  go_enter Try.func14, Try.ntmps14
  go_wp2
  exact bodyPost_ret (v := .agg #[.int .u64 0, V x]) (by simp [results, Try.results14, go_sem]) rfl ⟨rfl, Up.alloc _ _⟩

theorem mul_lt (a b : Nat) (ha : N64 a) (hb : N64 b) : N128 (a * b) := by
  unfold N64 N128 at *
  have := Nat.mul_le_mul (show a ≤ 18446744073709551615 by omega) (show b ≤ 18446744073709551615 by omega)
  omega

theorem Product_any (a b : Nat) (ha : N64 a) (hb : N64 b) (w : World) : Calls Try.prog 11 #[V a, V b] w fun e w' => e = .returned (Wd (a * b)) ∧ Up w w' := by
  have hm := Mul64_any a b ha hb
  clear ha hb
  generalize a * b = p at hm ⊢
  go_enter Try.func11, Try.ntmps11
  go_wp2_with fail
  refine (hm _).mono ?_
  rintro e w1 ⟨rfl, rfl⟩
  go_wp2
  exact bodyPost_ret (v := Wd p) (by simp [results, Try.results11, go_sem]) rfl ⟨rfl, Up.alloc _ _⟩

/-- What Narrow answers. -/
abbrev nwV (n : Nat) : Value := if n < 18446744073709551616 then .tuple #[V n, .bool true] else .tuple #[.int .u64 0, .bool false]

theorem Narrow_fits (a : Nat) (ha : N64 a) (w : World) : Calls Try.prog 12 #[Wd a] w fun e w' => e = .returned (.tuple #[V a, .bool true]) ∧ Up w w' := by
  have hW : Wd a = .agg #[.int .u64 0, V a] := by
    have e1 : hiN a = 0 := by unfold hiN N64 at *; omega
    have e2 : loN a = a := by unfold loN N64 at *; omega
    simp only [Wd, e1, e2]; rfl
  rw [hW]
  clear hW ha
  go_enter Try.func12, Try.ntmps12
  go_wp2
  go_ret2
  exact ⟨rfl, Up.alloc _ _⟩

theorem Narrow_not (a : Nat) (ha : 18446744073709551616 ≤ a) (w : World) : Calls Try.prog 12 #[Wd a] w fun e w' => e = .returned (.tuple #[.int .u64 0, .bool false]) ∧ Up w w' := by
  have h : (0 : Int) < (hiN a : Int) := by unfold hiN; omega
  clear ha
  go_enter Try.func12, Try.ntmps12
  go_wp2
  go_ret2
  exact ⟨rfl, Up.alloc _ _⟩
end Go.Proofs.Ytknanpnbpmmlgaa
