/- sat: the law's function right answers true of every four numbers. -/
import Derived.Test.YtknanpnbpmmlgaaSatRefD
import Derived.Test.YtknanpnbpmmlgaaSatRing
set_option linter.unusedVariables false
namespace Go.Proofs.Ytknanpnbpmmlgaa
open Go Go.RowKit

/-- Cells with numbers that hold still, whatever was made since. -/
def Ho (w u : World) (L : List (Nat × Nat × Nat)) : Prop := Up w u ∧ ∀ p ∈ L, u.cell? ⟨p.1, p.2.1, none⟩ = some (V p.2.2)
theorem Ho.grow {w u u' : World} {L : List (Nat × Nat × Nat)} (h : Ho w u L) (hu : Up u u') : Ho w u' L :=
  ⟨h.1.trans hu, fun p hp => by rw [hu.cell (World.block_lt_of_cell? u _ (h.2 p hp))]; exact h.2 p hp⟩
theorem Ho.new {w u : World} {L : List (Nat × Nat × Nat)} (h : Ho w u L) (x y : Nat) (t : TypeId) : Ho w (u.alloc (.cells #[V x, V y] t)) ((u.heap.size, 0, x) :: (u.heap.size, 1, y) :: L) := by
  obtain ⟨a, b⟩ := h.grow (Up.alloc u (.cells #[V x, V y] t))
  refine ⟨a, fun p hp => ?_⟩
  rcases List.mem_cons.1 hp with rfl | hp
  · rw [cell_of_row _ _ _ _ _ _ (heap_alloc_new _ _)]; rfl
  · rcases List.mem_cons.1 hp with rfl | hp
    · rw [cell_of_row _ _ _ _ _ _ (heap_alloc_new _ _)]; rfl
    · exact b p hp

theorem wide_raw (h l : Nat) (w : World) : Calls Try.prog 23 #[.agg #[V h, V l]] w fun e w' => e = .returned (.agg #[V h, V l]) ∧ Up w w' := by
  go_enter Try.func23, Try.ntmps23
  go_wp2
  exact bodyPost_ret (v := .agg #[V h, V l]) (by simp [results, Try.results23, go_sem]) rfl ⟨rfl, up2 _ _ _⟩

/-- A contract that says what comes back, and that nothing old has changed. -/
abbrev Gives (f : FuncId) (args : Array Value) (v : Value) : Prop := ∀ w, Calls Try.prog f args w fun e w' => e = .returned v ∧ Up w w'
theorem gives_same {f : FuncId} {args : Array Value} {v : Value} (h : ∀ w, Calls Try.prog f args w fun e w' => e = .returned v ∧ w' = w) : Gives f args v :=
  fun w => (h w).mono fun e w' ⟨h1, h2⟩ => ⟨h1, h2 ▸ Up.refl _⟩

/-- All that right asks of the two packages, of the same four numbers: the same answers. -/
structure Rt (A B C D : Nat) : Prop where
  add : ∃ a : Nat, Gives 16 #[V A, V B] (V a) ∧ Gives 20 #[V A, V B] (V a)
  sub : ∃ a : Nat, Gives 18 #[V A, V B] (V a) ∧ Gives 21 #[V A, V B] (V a)
  mul : ∃ a : Nat, Gives 17 #[V A, V B] (V a) ∧ Gives 22 #[V A, V B] (V a)
  of : ∃ h l : Nat, Gives 14 #[V A] (.agg #[V h, V l]) ∧ Gives 24 #[V A] (.agg #[V h, V l])
  prod : ∃ h l : Nat, Gives 11 #[V A, V C] (.agg #[V h, V l]) ∧ Gives 25 #[V A, V C] (.agg #[V h, V l])
  plus : ∃ h l : Nat, Gives 13 #[.agg #[V A, V B], .agg #[V C, V D]] (.agg #[V h, V l]) ∧ Gives 26 #[.agg #[V A, V B], .agg #[V C, V D]] (.agg #[V h, V l])
  minus : ∃ h l : Nat, Gives 15 #[.agg #[V A, V B], .agg #[V C, V D]] (.agg #[V h, V l]) ∧ Gives 27 #[.agg #[V A, V B], .agg #[V C, V D]] (.agg #[V h, V l])
  cmp : ∃ c : Int, Gives 19 #[.agg #[V A, V B], .agg #[V C, V D]] (.int .i64 c) ∧ Gives 28 #[.agg #[V A, V B], .agg #[V C, V D]] (.int .i64 c)
  minus' : ∃ h l : Nat, Gives 15 #[.agg #[V C, V D], .agg #[V A, V B]] (.agg #[V h, V l]) ∧ Gives 27 #[.agg #[V C, V D], .agg #[V A, V B]] (.agg #[V h, V l])
  narrow : ∃ (s : Nat) (ok : Bool), Gives 12 #[.agg #[V A, V B]] (.tuple #[V s, .bool ok]) ∧ Gives 29 #[.agg #[V A, V B]] (.tuple #[V s, .bool ok])
  div : ∃ h l r : Nat, Gives 10 #[.agg #[V A, V B], V C] (.tuple #[.agg #[V h, V l], V r]) ∧ Gives 30 #[.agg #[V A, V B], V C] (.tuple #[.agg #[V h, V l], V r])

theorem right_same' (n m A B C D : Nat) (hA : N64 A) (hB : N64 B) (hC : N64 C) (hD : N64 D) (e1 : Wd n = .agg #[V A, V B]) (e2 : Wd m = .agg #[V C, V D]) (hn : N128 n) (hm : N128 m) : Rt A B C D := by
  refine ⟨⟨_, gives_same (Add_any A B hA hB), RAdd_any A B hA hB⟩, ⟨_, gives_same (Sub_any A B hA), gives_same (RSub_any A B hA)⟩, ⟨_, Mul_any A B hA hB, RMul_any A B hA hB⟩,
    ⟨_, _, Of_any A hA, ROf_any A hA⟩, ⟨_, _, Product_any A C hA hC, RProduct_any A C hA hC⟩, ?_, ?_, ?_, ?_, ?_, ?_⟩
  · rw [← e1, ← e2]; exact ⟨_, _, Plus_any n m hn hm, RPlus_any n m hn hm⟩
  · rw [← e1, ← e2]; exact ⟨_, _, Minus_any n m hn hm, RMinus_any n m hn hm⟩
  · rw [← e1, ← e2]; exact ⟨_, Cmp_any n m, RCmp_any n m hn hm⟩
  · rw [← e1, ← e2]; exact ⟨_, _, Minus_any m n hm hn, RMinus_any m n hm hn⟩
  · rw [← e1]
    by_cases h : n < 18446744073709551616
    · exact ⟨n, true, Narrow_fits n h, RNarrow_fits n h⟩
    · exact ⟨0, false, Narrow_not n (by omega), RNarrow_not n (by omega)⟩
  · rw [← e1]
    rcases Nat.eq_zero_or_pos C with rfl | h
    · exact ⟨0, 0, 0, DivMod_zero n, RDivMod_zero n⟩
    · exact ⟨_, _, _, DivMod_any n C hn h hC, RDivMod_pos n C hn h hC⟩

theorem right_same (A B C D : Nat) (hA : N64 A) (hB : N64 B) (hC : N64 C) (hD : N64 D) : Rt A B C D :=
  right_same' (A * 18446744073709551616 + B) (C * 18446744073709551616 + D) A B C D hA hB hC hD (wd_eq _ _ _ (hi_of _ _ hB) (lo_of _ _ hB)) (wd_eq _ _ _ (hi_of _ _ hD) (lo_of _ _ hD))
    (by unfold N64 N128 at *; omega) (by unfold N64 N128 at *; omega)
end Go.Proofs.Ytknanpnbpmmlgaa
