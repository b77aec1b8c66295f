/- table: the calls of a table of ints. Laid by genTree.py out of tree7.src. Own work. -/
import Derived.Test.YtldmiieepikjnaaTbYI
import Derived.Test.YtldmiieepikjnaaTbClone
set_option linter.unusedVariables false
set_option linter.unusedSimpArgs false
namespace Go.Proofs.Ytldmiieepikjnaa
open Go Go.RowKit

/-- A value as the program has it. -/
abbrev VI (v : Int) : Value := .int .i64 v
/-- The block b is a table of at most lim keys that holds the row xs. -/
def TabI (w : World) (b : Nat) (lim : Int) (xs : List (KV Int)) : Prop :=
  ∃ t : Tr Int, w.heap[b]? = some (.cells #[.int .i64 lim, .int .i64 (xs.length : Int), .pointer t.ptr] 80 (0, 0)) ∧ TI w t ∧ t.els = xs ∧ Srt xs
theorem TabI.lt {w : World} {b : Nat} {lim : Int} {xs : List (KV Int)} (h : TabI w b lim xs) : b < w.heap.size := by obtain ⟨t, h, _⟩ := h; exact (Array.getElem?_eq_some_iff.1 h).1
theorem TabI.up {w w' : World} {b : Nat} {lim : Int} {xs : List (KV Int)} (h : TabI w b lim xs) (u : Up w w') : TabI w' b lim xs := by
  obtain ⟨t, h1, h2, h3, h4⟩ := h
  exact ⟨t, (u.block b (Array.getElem?_eq_some_iff.1 h1).1).trans h1, IsT.up h2 u, h3, h4⟩
theorem TabI.srt {w : World} {b : Nat} {lim : Int} {xs : List (KV Int)} (h : TabI w b lim xs) : Srt xs := by obtain ⟨t, h1, h2, h3, h4⟩ := h; exact h4
/-- What is there of a table behind a change of other blocks, none of which is of a tree's. -/
theorem TabI.kept {w w' : World} {b : Nat} {lim : Int} {xs : List (KV Int)} (h : TabI w b lim xs) (hb : w'.heap[b]? = w.heap[b]?) (s : Still 125 88 w w') : TabI w' b lim xs := by
  obtain ⟨t, h1, h2, h3, h4⟩ := h
  exact ⟨t, hb.trans h1, IsT.still s h2, h3, h4⟩
theorem cells3 {w : World} {b : Nat} {a c d : Value} {T : TypeId} (h : w.heap[b]? = some (.cells #[a, c, d] T (0, 0))) :
    w.cell? ⟨b, 0, none⟩ = some a ∧ w.cell? ⟨b, 1, none⟩ = some c ∧ w.cell? ⟨b, 2, none⟩ = some d ∧ w.frozen? ⟨b, 1, none⟩ = false ∧ w.frozen? ⟨b, 2, none⟩ = false := by
  refine ⟨?_, ?_, ?_, ?_, ?_⟩
  · rw [cell_of_row _ _ _ _ _ _ h]; rfl
  · rw [cell_of_row _ _ _ _ _ _ h]; rfl
  · rw [cell_of_row _ _ _ _ _ _ h]; rfl
  · simp [World.frozen?, h]
  · simp [World.frozen?, h]

theorem NewI_any (lim : Int) (w : World) : Calls Try.prog 9 #[.int .i64 lim] w fun e w' => e = .returned (.pointer (some ⟨w.heap.size, 0, none⟩)) ∧ TabI w' w.heap.size lim [] ∧ Up w w' := by
  have fin : TabI (w.alloc (.cells #[.int .i64 lim, .int .i64 0, .pointer none] 80)) w.heap.size lim [] := ⟨.nil, heap_alloc_new _ _, trivial, rfl, List.Pairwise.nil⟩
  go_enter Try.func9, Try.ntmps9
  go_wp2
  go_ret
  exact ⟨rfl, fin, Up.alloc _ _⟩

theorem LenI_nil (w : World) : Calls Try.prog 18 #[.pointer none] w fun e w' => e = .returned (.int .i64 0) ∧ w' = w := by
  go_enter Try.func18, Try.ntmps18
  go_wp2
  go_ret
  exact ⟨rfl, rfl⟩
theorem LenI_any (b : Nat) (lim : Int) (xs : List (KV Int)) (w : World) (h : TabI w b lim xs) : Calls Try.prog 18 #[.pointer (some ⟨b, 0, none⟩)] w fun e w' => e = .returned (.int .i64 (xs.length : Int)) ∧ w' = w := by
  obtain ⟨t, h1, _⟩ := h
  obtain ⟨_, c1, _⟩ := cells3 h1
  clear h1
  go_enter Try.func18, Try.ntmps18
  go_wp2
  go_ret
  exact ⟨rfl, rfl⟩

theorem GetI_nil (k : ByteArray) (w : World) : Calls Try.prog 14 #[.pointer none, .string k] w fun e w' => e = .returned (.tuple #[.int .i64 0, .bool false]) ∧ w' = w := by
  go_enter Try.func14, Try.ntmps14
  go_wp2
  go_ret2
  exact ⟨rfl, rfl⟩
theorem GetI_any (k : ByteArray) (b : Nat) (lim : Int) (xs : List (KV Int)) (w : World) (h : TabI w b lim xs) :
    Calls Try.prog 14 #[.pointer (some ⟨b, 0, none⟩), .string k] w fun e w' => e = .returned (match getL k xs with | some v => .tuple #[VI v, .bool true] | none => .tuple #[.int .i64 0, .bool false]) ∧ w' = w := by
  obtain ⟨t, h1, h2, rfl, h4⟩ := h
  obtain ⟨_, _, c2, _⟩ := cells3 h1
  have q := findI_any t k w h2
  have hlk := look_get t k h4
  cases hx : t.look k with
  | none =>
    rw [hx] at q hlk
    rw [← hlk]
    change Calls _ _ _ _ fun e w' => e = .returned (.pointer none) ∧ w' = w at q
    change Calls _ _ _ _ fun e w' => e = .returned (.tuple #[.int .i64 0, .bool false]) ∧ w' = w
    clear h1 h2 h4 hlk hx
    go_enter Try.func14, Try.ntmps14
    go_wp2_with (go_at_call 44; refine q.mono ?_; clear q; rintro e w1 ⟨rfl, hw⟩; obtain rfl : w = w1 := hw.symm)
    go_ret2
    exact ⟨rfl, rfl⟩
  | some x =>
    obtain ⟨p, k0, v⟩ := x
    have hp := IsT.look h2 hx
    rw [hx] at q hlk
    rw [← hlk]
    change Calls _ _ _ _ fun e w' => e = .returned (.pointer (some ⟨p, 0, none⟩)) ∧ w' = w at q
    change Calls _ _ _ _ fun e w' => e = .returned (.tuple #[VI v, .bool true]) ∧ w' = w
    have d1 : w.cell? ⟨p, 1, none⟩ = some (VI v) := by rw [cell_of_row _ _ _ _ _ _ hp]; rfl
    clear h1 h2 h4 hlk hx hp
    go_enter Try.func14, Try.ntmps14
    go_wp2_with (go_at_call 44; refine q.mono ?_; clear q; rintro e w1 ⟨rfl, hw⟩; obtain rfl : w = w1 := hw.symm)
    go_ret2
    exact ⟨rfl, rfl⟩

theorem PutI_nil (k : ByteArray) (v : Int) (w : World) : Calls Try.prog 12 #[.pointer none, .string k, VI v] w fun e w' => e = .returned (.bool false) ∧ w' = w := by
  go_enter Try.func12, Try.ntmps12
  go_wp2
  go_ret
  exact ⟨rfl, rfl⟩
theorem DeleteI_nil (k : ByteArray) (w : World) : Calls Try.prog 16 #[.pointer none, .string k] w fun e w' => e = .returned (.bool false) ∧ w' = w := by
  go_enter Try.func16, Try.ntmps16
  go_wp2
  go_ret
  exact ⟨rfl, rfl⟩
end Go.Proofs.Ytldmiieepikjnaa
