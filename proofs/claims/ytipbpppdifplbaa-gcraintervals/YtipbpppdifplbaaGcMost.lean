/- The law GcraMost returns true for every numbers, and changes nothing that was there. -/
import Derived.Test.YtipbpppdifplbaaGcLives
import Derived.Deep.RegionHeld3
import Derived.BigQuiet
import Derived.Deep.QuietTactic
set_option linter.unusedVariables false
namespace Go.Proofs.Ytipbpppdifplbaa
open Go Go.RowKit

/-- yes answers b of m units at now. -/
abbrev YesAt (gap slack tat now n m : Nat) (b : Bool) : Prop := ∀ w, Calls Try.prog 19 #[Ak gap slack tat now n, V now, V m] w fun e w' => e = .returned (.bool b) ∧ Up w w'

theorem yes_at (gap slack tat now n m : Nat) (hg : N64 gap) (hs : N64 slack) (ht : N64 tat) (hw : N64 now) (hm : N64 m) : YesAt gap slack tat now n m (decide (GFits gap slack tat now m)) :=
  fun w => yes_any gap slack tat now n now m hg hs ht hw hm w

/-- A box with an Ask holds still, whatever was made since. -/
abbrev S5 (w : World) (g a0 a1 a2 a3 a4 : Nat) (w' : World) : Prop :=
  w'.cell? ⟨g, 0, none⟩ = some (V a0) ∧ w'.cell? ⟨g, 1, none⟩ = some (V a1) ∧ w'.cell? ⟨g, 2, none⟩ = some (V a2) ∧ w'.cell? ⟨g, 3, none⟩ = some (V a3) ∧ w'.cell? ⟨g, 4, none⟩ = some (V a4) ∧ Up w w'
theorem s5_grow {w : World} {g a0 a1 a2 a3 a4 : Nat} {w' w'' : World} (h : S5 w g a0 a1 a2 a3 a4 w') (hu : Up w' w'') : S5 w g a0 a1 a2 a3 a4 w'' := by
  obtain ⟨h0, h1, h2, h3, h4, h5⟩ := h
  have hb := World.block_lt_of_cell? w' _ h0
  have hc := (bcell hu).1
  exact ⟨by rw [hc _ _ hb]; exact h0, by rw [hc _ _ hb]; exact h1, by rw [hc _ _ hb]; exact h2, by rw [hc _ _ hb]; exact h3, by rw [hc _ _ hb]; exact h4, h5.trans hu⟩
theorem s5_new (w : World) (a0 a1 a2 a3 a4 : Nat) : S5 w w.heap.size a0 a1 a2 a3 a4 (w.alloc (.cells #[V a0, V a1, V a2, V a3, V a4] 26)) :=
  ⟨by rw [cell_of_row _ _ _ _ _ _ (heap_alloc_new _ _)]; rfl, by rw [cell_of_row _ _ _ _ _ _ (heap_alloc_new _ _)]; rfl, by rw [cell_of_row _ _ _ _ _ _ (heap_alloc_new _ _)]; rfl, by rw [cell_of_row _ _ _ _ _ _ (heap_alloc_new _ _)]; rfl, by rw [cell_of_row _ _ _ _ _ _ (heap_alloc_new _ _)]; rfl, Up.alloc _ _⟩

set_option maxHeartbeats 1600000 in
theorem most_zero (gap slack tat now n : Nat) (k1 : ∀ w, Calls Try.prog 15 #[V gap, V slack, V tat, V now] w fun e w' => e = .returned (.int .u64 0) ∧ w' = w)
    (k2 : ∀ w, Calls Try.prog 19 #[Ak gap slack tat now n, V now, .int .u64 1] w fun e w' => e = .returned (.bool false) ∧ Up w w') (w : World) :
    Calls Try.prog 6 #[Ak gap slack tat now n] w fun e w' => e = .returned (.bool true) ∧ Up w w' := by
  go_enter Try.func6, Try.ntmps6
  go_wp2_with fail
  refine (lives_any _).mono ?_
  rintro e w1 ⟨rfl, u1⟩
  obtain ⟨hc1, hf1⟩ := bcell u1
  have hz : w.heap.size < w1.heap.size := by have := u1.size; simp at this; omega
  go_wp2_with fail
  refine (k1 _).mono ?_
  rintro e w2 ⟨rfl, rfl⟩
  go_wp2_with fail
  refine (k2 _).mono ?_
  rintro e w3 ⟨rfl, u3⟩
  clear k1 k2
  go_wp2
  go_ret
  exact ⟨rfl, (Up.alloc _ _).trans (u1.trans u3)⟩

set_option maxHeartbeats 3200000 in
theorem most_some (gap slack tat now n B' : Nat) (k1 : ∀ w, Calls Try.prog 15 #[V gap, V slack, V tat, V now] w fun e w' => e = .returned (V B') ∧ w' = w)
    (z : ((B' : Int) == 0) = false) (k2 : YesAt gap slack tat now n B' true)
    (k3 : decide ((B' : Int) < 18446744073709551615) = false ∨ (decide ((B' : Int) < 18446744073709551615) = true ∧ ∃ L, IntKind.u64.wrap ((B' : Int) + 1) = ((L : Nat) : Int) ∧ YesAt gap slack tat now n L false))
    (k4 : (decide (1 ≤ (n : Int)) = false ∧ YesAt gap slack tat now n n false) ∨ (decide (1 ≤ (n : Int)) = true ∧ ∃ b, decide (n ≤ B') = b ∧ YesAt gap slack tat now n n b)) (w : World) :
    Calls Try.prog 6 #[Ak gap slack tat now n] w fun e w' => e = .returned (.bool true) ∧ Up w w' := by
  rcases k3 with l3 | ⟨l3, L, w3, k3⟩
  · go_enter Try.func6, Try.ntmps6
    go_wp2_with fail
    refine (lives_any _).mono ?_
    rintro e w1 ⟨rfl, u1⟩
    have hs := s5_grow (s5_new w gap slack tat now n) u1
    generalize w.heap.size = g at hs ⊢
    clear u1
    obtain ⟨a0, a1, a2, a3, a4, hu⟩ := hs
    go_wp2_with fail
    refine (k1 _).mono ?_
    rintro e w2 ⟨rfl, rfl⟩
    go_wp2_with fail
    refine (k2 _).mono ?_
    rintro e w3 ⟨rfl, u3⟩
    obtain ⟨c0, c1, c2, c3, c4, hx⟩ := s5_grow ⟨a0, a1, a2, a3, a4, hu⟩ u3
    clear a0 a1 a2 a3 a4 hu u3 k1 k2
    go_wp2_with fail
    have hs := s5_grow ⟨c0, c1, c2, c3, c4, hx⟩ (Up.drew _)
    clear c0 c1 c2 c3 c4 hx
    rcases k4 with ⟨n1, k4⟩ | ⟨n1, b, n2, k4⟩
    · refine wp_region_held_drew (S := (fun w' => w'.cell? ⟨g, 0, none⟩ = some (V gap) ∧ w'.cell? ⟨g, 1, none⟩ = some (V slack) ∧ w'.cell? ⟨g, 2, none⟩ = some (V tat) ∧ w'.cell? ⟨g, 3, none⟩ = some (V now) ∧ w'.cell? ⟨g, 4, none⟩ = some (V n) ∧ Up w w')) (by kernel_rfl) hs (fun hs0 => ?_)
      refine wpAnyH_take (i := 0) (v := .pointer (some ⟨g, 4, none⟩)) rfl (by kernel_rfl) (by kernel_rfl) (by kernel_rfl) (fun _ _ _ h => h) (Or.inl ⟨by kernel_rfl, by intro w hSw; (try dsimp only at hSw); go_simp⟩) hs ?_
      simp only [Act.put, List.getElem_toArray, List.getElem_cons_zero]
      refine wpAnyH_take (i := 1) (v := V n) rfl (by kernel_rfl) (by kernel_rfl) (by kernel_rfl) (fun _ _ _ h => h) (Or.inl ⟨by kernel_rfl, by intro w hSw; (try dsimp only at hSw); go_simp⟩) hs ?_
      simp only [Act.put, List.getElem_toArray, List.getElem_cons_succ, List.getElem_cons_zero]
      refine wpAnyH_take (i := 2) (v := .bool false) rfl (by kernel_rfl) (by kernel_rfl) (by kernel_rfl) (fun _ _ _ h => h) (Or.inl ⟨by kernel_rfl, by intro w hSw; (try dsimp only at hSw); go_simp⟩) hs ?_
      simp only [Act.put, List.getElem_toArray, List.getElem_cons_succ, List.getElem_cons_zero]
      refine wpAnyH_take (i := 3) (v := .bool false) rfl (by kernel_rfl) (by kernel_rfl) (by kernel_rfl) (fun _ _ _ h => h) (Or.inl ⟨by kernel_rfl, by intro w hSw; (try dsimp only at hSw); go_simp⟩) hs ?_
      simp only [Act.put, List.getElem_toArray, List.getElem_cons_succ, List.getElem_cons_zero]
      refine wpAnyH_take (i := 4) (v := undef) rfl (by kernel_rfl) (by kernel_rfl) (by kernel_rfl) (fun _ _ _ h => h) (Or.inr ⟨by kernel_rfl, rfl⟩) hs ?_
      simp only [Act.put, List.getElem_toArray, List.getElem_cons_succ, List.getElem_cons_zero]
      refine wpAnyH_take (i := 5) (v := undef) rfl (by kernel_rfl) (by kernel_rfl) (by kernel_rfl) (fun _ _ _ h => h) (Or.inr ⟨by kernel_rfl, rfl⟩) hs ?_
      simp only [Act.put, List.getElem_toArray, List.getElem_cons_succ, List.getElem_cons_zero]
      refine wpAnyH_take (i := 6) (v := undef) rfl (by kernel_rfl) (by kernel_rfl) (by kernel_rfl) (fun _ _ _ h => h) (Or.inr ⟨by kernel_rfl, rfl⟩) hs ?_
      simp only [Act.put, List.getElem_toArray, List.getElem_cons_succ, List.getElem_cons_zero]
      refine wpAnyH_take (i := 7) (v := undef) rfl (by kernel_rfl) (by kernel_rfl) (by kernel_rfl) (fun _ _ _ h => h) (Or.inr ⟨by kernel_rfl, rfl⟩) hs ?_
      simp only [Act.put, List.getElem_toArray, List.getElem_cons_succ, List.getElem_cons_zero]
      refine wpAnyH_take (i := 8) (v := .bool false) rfl (by kernel_rfl) (by kernel_rfl) (by kernel_rfl) (fun _ _ _ h => h) (Or.inl ⟨by kernel_rfl, by intro w hSw; (try dsimp only at hSw); go_simp⟩) hs ?_
      simp only [Act.put, List.getElem_toArray, List.getElem_cons_succ, List.getElem_cons_zero]
      refine wpAnyH_take (i := 9) (v := .agg #[V gap, V slack, V tat, V now, V n]) rfl (by kernel_rfl) (by kernel_rfl) (by kernel_rfl) (fun _ _ _ h => h) (Or.inl ⟨by kernel_rfl, by intro w hSw; (try dsimp only at hSw); go_simp⟩) hs ?_
      simp only [Act.put, List.getElem_toArray, List.getElem_cons_succ, List.getElem_cons_zero]
      refine wpAnyH_take (i := 10) (v := .pointer (some ⟨g, 3, none⟩)) rfl (by kernel_rfl) (by kernel_rfl) (by kernel_rfl) (fun _ _ _ h => h) (Or.inl ⟨by kernel_rfl, by intro w hSw; (try dsimp only at hSw); go_simp⟩) hs ?_
      simp only [Act.put, List.getElem_toArray, List.getElem_cons_succ, List.getElem_cons_zero]
      refine wpAnyH_take (i := 11) (v := V now) rfl (by kernel_rfl) (by kernel_rfl) (by kernel_rfl) (fun _ _ _ h => h) (Or.inl ⟨by kernel_rfl, by intro w hSw; (try dsimp only at hSw); go_simp⟩) hs ?_
      simp only [Act.put, List.getElem_toArray, List.getElem_cons_succ, List.getElem_cons_zero]
      refine wpAnyH_take (i := 12) (v := .pointer (some ⟨g, 4, none⟩)) rfl (by kernel_rfl) (by kernel_rfl) (by kernel_rfl) (fun _ _ _ h => h) (Or.inl ⟨by kernel_rfl, by intro w hSw; (try dsimp only at hSw); go_simp⟩) hs ?_
      simp only [Act.put, List.getElem_toArray, List.getElem_cons_succ, List.getElem_cons_zero]
      refine wpAnyH_take (i := 13) (v := V n) rfl (by kernel_rfl) (by kernel_rfl) (by kernel_rfl) (fun _ _ _ h => h) (Or.inl ⟨by kernel_rfl, by intro w hSw; (try dsimp only at hSw); go_simp⟩) hs ?_
      simp only [Act.put, List.getElem_toArray, List.getElem_cons_succ, List.getElem_cons_zero]
      refine wpAnyH_ready (rs := [14]) (by kernel_rfl) (by simp) ?_
      refine AllReadyH.cons rfl (fun K hK => ?_) AllReadyH.nil
      go_simp
      refine (k4 _).mono ?_
      rintro e w5 ⟨rfl, u5⟩
      replace hs := s5_grow hs u5
      refine hK.out _ _ hs (fun hHeld => ?_)
      clear hK K
      refine wpAnyH_take (i := 15) (v := .bool true) rfl (by kernel_rfl) (by kernel_rfl) (by kernel_rfl) (fun _ _ _ h => h) (Or.inl ⟨by kernel_rfl, by intro w hSw; (try dsimp only at hSw); go_simp⟩) hs ?_
      simp only [Act.put, List.getElem_toArray, List.getElem_cons_succ, List.getElem_cons_zero]
      refine wpAnyH_take (i := 16) (v := .bool true) rfl (by kernel_rfl) (by kernel_rfl) (by kernel_rfl) (fun _ _ _ h => h) (Or.inl ⟨by kernel_rfl, by intro w hSw; (try dsimp only at hSw); go_simp⟩) hs ?_
      simp only [Act.put, List.getElem_toArray, List.getElem_cons_succ, List.getElem_cons_zero]
      refine wpAnyH_done (by kernel_rfl) ?_ _
      clear n1 l3
      go_wp2
      go_ret
      exact ⟨rfl, hs.2.2.2.2.2⟩
    · go_region_held3 (fun w' => w'.cell? ⟨g, 0, none⟩ = some (V gap) ∧ w'.cell? ⟨g, 1, none⟩ = some (V slack) ∧ w'.cell? ⟨g, 2, none⟩ = some (V tat) ∧ w'.cell? ⟨g, 3, none⟩ = some (V now) ∧ w'.cell? ⟨g, 4, none⟩ = some (V n) ∧ Up w w') (exact hs)
        (first
        | (go_at_call 19; refine (k4 _).mono ?_; rintro e w5 ⟨rfl, u5⟩; replace hs := s5_grow hs u5))
      all_goals (go_wp2; go_ret; exact ⟨rfl, hs.2.2.2.2.2⟩)
  · go_enter Try.func6, Try.ntmps6
    go_wp2_with fail
    refine (lives_any _).mono ?_
    rintro e w1 ⟨rfl, u1⟩
    have hs := s5_grow (s5_new w gap slack tat now n) u1
    generalize w.heap.size = g at hs ⊢
    clear u1
    obtain ⟨a0, a1, a2, a3, a4, hu⟩ := hs
    go_wp2_with fail
    refine (k1 _).mono ?_
    rintro e w2 ⟨rfl, rfl⟩
    go_wp2_with fail
    refine (k2 _).mono ?_
    rintro e w3 ⟨rfl, u3⟩
    obtain ⟨b0, b1, b2, b3, b4, hv⟩ := s5_grow ⟨a0, a1, a2, a3, a4, hu⟩ u3
    clear a0 a1 a2 a3 a4 hu u3
    go_wp2_with fail
    refine (k3 _).mono ?_
    rintro e w4 ⟨rfl, u4⟩
    obtain ⟨c0, c1, c2, c3, c4, hx⟩ := s5_grow ⟨b0, b1, b2, b3, b4, hv⟩ u4
    clear b0 b1 b2 b3 b4 hv u4 k1 k2 k3
    go_wp2_with fail
    have hs := s5_grow ⟨c0, c1, c2, c3, c4, hx⟩ (Up.drew _)
    clear c0 c1 c2 c3 c4 hx
    rcases k4 with ⟨n1, k4⟩ | ⟨n1, b, n2, k4⟩
    · refine wp_region_held_drew (S := (fun w' => w'.cell? ⟨g, 0, none⟩ = some (V gap) ∧ w'.cell? ⟨g, 1, none⟩ = some (V slack) ∧ w'.cell? ⟨g, 2, none⟩ = some (V tat) ∧ w'.cell? ⟨g, 3, none⟩ = some (V now) ∧ w'.cell? ⟨g, 4, none⟩ = some (V n) ∧ Up w w')) (by kernel_rfl) hs (fun hs0 => ?_)
      refine wpAnyH_take (i := 0) (v := .pointer (some ⟨g, 4, none⟩)) rfl (by kernel_rfl) (by kernel_rfl) (by kernel_rfl) (fun _ _ _ h => h) (Or.inl ⟨by kernel_rfl, by intro w hSw; (try dsimp only at hSw); go_simp⟩) hs ?_
      simp only [Act.put, List.getElem_toArray, List.getElem_cons_zero]
      refine wpAnyH_take (i := 1) (v := V n) rfl (by kernel_rfl) (by kernel_rfl) (by kernel_rfl) (fun _ _ _ h => h) (Or.inl ⟨by kernel_rfl, by intro w hSw; (try dsimp only at hSw); go_simp⟩) hs ?_
      simp only [Act.put, List.getElem_toArray, List.getElem_cons_succ, List.getElem_cons_zero]
      refine wpAnyH_take (i := 2) (v := .bool false) rfl (by kernel_rfl) (by kernel_rfl) (by kernel_rfl) (fun _ _ _ h => h) (Or.inl ⟨by kernel_rfl, by intro w hSw; (try dsimp only at hSw); go_simp⟩) hs ?_
      simp only [Act.put, List.getElem_toArray, List.getElem_cons_succ, List.getElem_cons_zero]
      refine wpAnyH_take (i := 3) (v := .bool false) rfl (by kernel_rfl) (by kernel_rfl) (by kernel_rfl) (fun _ _ _ h => h) (Or.inl ⟨by kernel_rfl, by intro w hSw; (try dsimp only at hSw); go_simp⟩) hs ?_
      simp only [Act.put, List.getElem_toArray, List.getElem_cons_succ, List.getElem_cons_zero]
      refine wpAnyH_take (i := 4) (v := undef) rfl (by kernel_rfl) (by kernel_rfl) (by kernel_rfl) (fun _ _ _ h => h) (Or.inr ⟨by kernel_rfl, rfl⟩) hs ?_
      simp only [Act.put, List.getElem_toArray, List.getElem_cons_succ, List.getElem_cons_zero]
      refine wpAnyH_take (i := 5) (v := undef) rfl (by kernel_rfl) (by kernel_rfl) (by kernel_rfl) (fun _ _ _ h => h) (Or.inr ⟨by kernel_rfl, rfl⟩) hs ?_
      simp only [Act.put, List.getElem_toArray, List.getElem_cons_succ, List.getElem_cons_zero]
      refine wpAnyH_take (i := 6) (v := undef) rfl (by kernel_rfl) (by kernel_rfl) (by kernel_rfl) (fun _ _ _ h => h) (Or.inr ⟨by kernel_rfl, rfl⟩) hs ?_
      simp only [Act.put, List.getElem_toArray, List.getElem_cons_succ, List.getElem_cons_zero]
      refine wpAnyH_take (i := 7) (v := undef) rfl (by kernel_rfl) (by kernel_rfl) (by kernel_rfl) (fun _ _ _ h => h) (Or.inr ⟨by kernel_rfl, rfl⟩) hs ?_
      simp only [Act.put, List.getElem_toArray, List.getElem_cons_succ, List.getElem_cons_zero]
      refine wpAnyH_take (i := 8) (v := .bool false) rfl (by kernel_rfl) (by kernel_rfl) (by kernel_rfl) (fun _ _ _ h => h) (Or.inl ⟨by kernel_rfl, by intro w hSw; (try dsimp only at hSw); go_simp⟩) hs ?_
      simp only [Act.put, List.getElem_toArray, List.getElem_cons_succ, List.getElem_cons_zero]
      refine wpAnyH_take (i := 9) (v := .agg #[V gap, V slack, V tat, V now, V n]) rfl (by kernel_rfl) (by kernel_rfl) (by kernel_rfl) (fun _ _ _ h => h) (Or.inl ⟨by kernel_rfl, by intro w hSw; (try dsimp only at hSw); go_simp⟩) hs ?_
      simp only [Act.put, List.getElem_toArray, List.getElem_cons_succ, List.getElem_cons_zero]
      refine wpAnyH_take (i := 10) (v := .pointer (some ⟨g, 3, none⟩)) rfl (by kernel_rfl) (by kernel_rfl) (by kernel_rfl) (fun _ _ _ h => h) (Or.inl ⟨by kernel_rfl, by intro w hSw; (try dsimp only at hSw); go_simp⟩) hs ?_
      simp only [Act.put, List.getElem_toArray, List.getElem_cons_succ, List.getElem_cons_zero]
      refine wpAnyH_take (i := 11) (v := V now) rfl (by kernel_rfl) (by kernel_rfl) (by kernel_rfl) (fun _ _ _ h => h) (Or.inl ⟨by kernel_rfl, by intro w hSw; (try dsimp only at hSw); go_simp⟩) hs ?_
      simp only [Act.put, List.getElem_toArray, List.getElem_cons_succ, List.getElem_cons_zero]
      refine wpAnyH_take (i := 12) (v := .pointer (some ⟨g, 4, none⟩)) rfl (by kernel_rfl) (by kernel_rfl) (by kernel_rfl) (fun _ _ _ h => h) (Or.inl ⟨by kernel_rfl, by intro w hSw; (try dsimp only at hSw); go_simp⟩) hs ?_
      simp only [Act.put, List.getElem_toArray, List.getElem_cons_succ, List.getElem_cons_zero]
      refine wpAnyH_take (i := 13) (v := V n) rfl (by kernel_rfl) (by kernel_rfl) (by kernel_rfl) (fun _ _ _ h => h) (Or.inl ⟨by kernel_rfl, by intro w hSw; (try dsimp only at hSw); go_simp⟩) hs ?_
      simp only [Act.put, List.getElem_toArray, List.getElem_cons_succ, List.getElem_cons_zero]
      refine wpAnyH_ready (rs := [14]) (by kernel_rfl) (by simp) ?_
      refine AllReadyH.cons rfl (fun K hK => ?_) AllReadyH.nil
      go_simp
      refine (k4 _).mono ?_
      rintro e w5 ⟨rfl, u5⟩
      replace hs := s5_grow hs u5
      refine hK.out _ _ hs (fun hHeld => ?_)
      clear hK K
      refine wpAnyH_take (i := 15) (v := .bool true) rfl (by kernel_rfl) (by kernel_rfl) (by kernel_rfl) (fun _ _ _ h => h) (Or.inl ⟨by kernel_rfl, by intro w hSw; (try dsimp only at hSw); go_simp⟩) hs ?_
      simp only [Act.put, List.getElem_toArray, List.getElem_cons_succ, List.getElem_cons_zero]
      refine wpAnyH_take (i := 16) (v := .bool true) rfl (by kernel_rfl) (by kernel_rfl) (by kernel_rfl) (fun _ _ _ h => h) (Or.inl ⟨by kernel_rfl, by intro w hSw; (try dsimp only at hSw); go_simp⟩) hs ?_
      simp only [Act.put, List.getElem_toArray, List.getElem_cons_succ, List.getElem_cons_zero]
      refine wpAnyH_done (by kernel_rfl) ?_ _
      clear n1 l3
      go_wp2
      go_ret
      exact ⟨rfl, hs.2.2.2.2.2⟩
    · go_region_held3 (fun w' => w'.cell? ⟨g, 0, none⟩ = some (V gap) ∧ w'.cell? ⟨g, 1, none⟩ = some (V slack) ∧ w'.cell? ⟨g, 2, none⟩ = some (V tat) ∧ w'.cell? ⟨g, 3, none⟩ = some (V now) ∧ w'.cell? ⟨g, 4, none⟩ = some (V n) ∧ Up w w') (exact hs)
        (first
        | (go_at_call 19; refine (k4 _).mono ?_; rintro e w5 ⟨rfl, u5⟩; replace hs := s5_grow hs u5))
      all_goals (go_wp2; go_ret; exact ⟨rfl, hs.2.2.2.2.2⟩)

theorem GcraMost_any (gap slack tat now n : Nat) (hg : N64 gap) (hs : N64 slack) (ht : N64 tat) (hw : N64 now) (hn : N64 n) (w : World) :
    Calls Try.prog 6 #[Ak gap slack tat now n] w fun e w' => e = .returned (.bool true) ∧ Up w w' := by
  have k1 := Burst_any gap slack tat now hg hs ht hw
  have hb := fun m => burst_is (gap := gap) (slack := slack) (tat := tat) (now := now) m
  have hl := burst_lt gap slack tat now
  generalize gBurst gap slack tat now = B' at *
  have yt : ∀ m, N64 m → (1 ≤ m ∧ m ≤ B') → YesAt gap slack tat now n m true := fun m hm h => by
    have k := yes_at gap slack tat now n m hg hs ht hw hm
    rw [decide_eq_true ((hb m).2 h)] at k
    exact k
  have yf : ∀ m, N64 m → ¬ (1 ≤ m ∧ m ≤ B') → YesAt gap slack tat now n m false := fun m hm h => by
    have k := yes_at gap slack tat now n m hg hs ht hw hm
    rw [decide_eq_false (fun h2 => h ((hb m).1 h2))] at k
    exact k
  by_cases hz : B' = 0
  · subst hz
    exact most_zero gap slack tat now n k1 (yf 1 (by unfold N64; omega) (by omega)) w
  · refine most_some gap slack tat now n B' k1 (ne_int B' hz) (yt B' (by unfold N64; omega) (by omega)) ?_ ?_ w
    · by_cases h : B' < 18446744073709551615
      · exact Or.inr ⟨decide_eq_true (by omega), B' + 1, by rw [IntKind.wrap_u64]; omega, yf (B' + 1) (by unfold N64; omega) (by omega)⟩
      · exact Or.inl (decide_eq_false (by omega))
    · by_cases h1 : 1 ≤ n
      · refine Or.inr ⟨decide_eq_true (by omega), decide (n ≤ B'), rfl, ?_⟩
        by_cases h2 : n ≤ B'
        · rw [decide_eq_true h2]; exact yt n hn ⟨h1, h2⟩
        · rw [decide_eq_false h2]; exact yf n hn (by omega)
      · exact Or.inl ⟨decide_eq_false (by omega), yf n hn (by omega)⟩
end Go.Proofs.Ytipbpppdifplbaa
