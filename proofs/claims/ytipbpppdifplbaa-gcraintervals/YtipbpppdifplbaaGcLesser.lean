/- The law GcraLesser returns true for every numbers, and changes nothing that was there. -/
import Derived.Test.YtipbpppdifplbaaGcMost
set_option linter.unusedVariables false
namespace Go.Proofs.Ytipbpppdifplbaa
open Go Go.RowKit

/-- Beside the Ask's box one with a number of 128 bits. -/
abbrev S7 (w : World) (g a0 a1 a2 a3 a4 k N : Nat) (w' : World) : Prop :=
  w'.cell? ⟨k, 0, none⟩ = some (V (hiN N)) ∧ w'.cell? ⟨k, 1, none⟩ = some (V (loN N)) ∧ S5 w g a0 a1 a2 a3 a4 w'
theorem s7_grow {w : World} {g a0 a1 a2 a3 a4 k N : Nat} {w' w'' : World} (h : S7 w g a0 a1 a2 a3 a4 k N w') (hu : Up w' w'') : S7 w g a0 a1 a2 a3 a4 k N w'' := by
  obtain ⟨h0, h1, h2⟩ := h
  have hc := (bcell hu).1
  exact ⟨by rw [hc _ _ (World.block_lt_of_cell? w' _ h0)]; exact h0, by rw [hc _ _ (World.block_lt_of_cell? w' _ h1)]; exact h1, s5_grow h2 hu⟩
theorem s7_new {w : World} {g a0 a1 a2 a3 a4 : Nat} {w' : World} (h : S5 w g a0 a1 a2 a3 a4 w') (N : Nat) : S7 w g a0 a1 a2 a3 a4 w'.heap.size N (w'.alloc (.cells #[V (hiN N), V (loN N)] 36)) :=
  ⟨by rw [cell_of_row _ _ _ _ _ _ (heap_alloc_new _ _)]; rfl, by rw [cell_of_row _ _ _ _ _ _ (heap_alloc_new _ _)]; rfl, s5_grow h (Up.alloc _ _)⟩

/-- The box with the number alone. -/
abbrev S2 (w : World) (k N : Nat) (w' : World) : Prop := w'.cell? ⟨k, 0, none⟩ = some (V (hiN N)) ∧ w'.cell? ⟨k, 1, none⟩ = some (V (loN N)) ∧ Up w w'
theorem s2_grow {w : World} {k N : Nat} {w' w'' : World} (h : S2 w k N w') (hu : Up w' w'') : S2 w k N w'' := by
  obtain ⟨h0, h1, h2⟩ := h
  have hc := (bcell hu).1
  exact ⟨by rw [hc _ _ (World.block_lt_of_cell? w' _ h0)]; exact h0, by rw [hc _ _ (World.block_lt_of_cell? w' _ h1)]; exact h1, h2.trans hu⟩

abbrev AdmitIs (gap slack tat now n t : Nat) (ok : Bool) : Prop := ∀ w, Calls Try.prog 12 #[V gap, V slack, V tat, V now, V n] w fun e w' => e = .returned (.tuple #[V t, .bool ok]) ∧ Up w w'

set_option maxHeartbeats 1600000 in
theorem lesser_not (gap slack tat now n less later : Nat) (k1 : AdmitIs gap slack tat now n tat false) (w : World) :
    Calls Try.prog 8 #[Ak gap slack tat now n, V less, V later] w fun e w' => e = .returned (.bool true) ∧ Up w w' := by
  go_enter Try.func8, Try.ntmps8
  go_wp2_with fail
  refine (lives_any _).mono ?_
  rintro e w1 ⟨rfl, u1⟩
  have hs := s5_grow (s5_new w gap slack tat now n) u1
  generalize w.heap.size = g at hs ⊢
  clear u1
  obtain ⟨a0, a1, a2, a3, a4, hu⟩ := hs
  go_wp2_with fail
  refine (k1 _).mono ?_
  rintro e w2 ⟨rfl, u2⟩
  obtain ⟨b0, b1, b2, b3, b4, hv⟩ := s5_grow ⟨a0, a1, a2, a3, a4, hu⟩ u2
  clear a0 a1 a2 a3 a4 hu u2 k1
  go_wp2
  go_ret
  exact ⟨rfl, hv⟩

set_option maxHeartbeats 3200000 in
theorem lesser_early (gap slack tat now n less later T U : Nat) (k1 : AdmitIs gap slack tat now n T true)
    (kl : ¬ (less : Int) ≤ (tat : Int) ∨ ((less : Int) ≤ (tat : Int) ∧ ¬ (T : Int) < (U : Int) ∧ AdmitIs gap slack less now n U true)) (c3 : (later : Int) < (now : Int)) (w : World) :
    Calls Try.prog 8 #[Ak gap slack tat now n, V less, V later] w fun e w' => e = .returned (.bool true) ∧ Up w w' := by
  go_enter Try.func8, Try.ntmps8
  go_wp2_with fail
  refine (lives_any _).mono ?_
  rintro e w1 ⟨rfl, u1⟩
  have hs := s5_grow (s5_new w gap slack tat now n) u1
  generalize w.heap.size = g at hs ⊢
  clear u1
  obtain ⟨a0, a1, a2, a3, a4, hu⟩ := hs
  go_wp2_with fail
  refine (k1 _).mono ?_
  rintro e w2 ⟨rfl, u2⟩
  obtain ⟨b0, b1, b2, b3, b4, hv⟩ := s5_grow ⟨a0, a1, a2, a3, a4, hu⟩ u2
  clear a0 a1 a2 a3 a4 hu u2 k1
  rcases kl with c1 | ⟨c1, c2, kl⟩
  · go_wp2
    go_ret
    exact ⟨rfl, hv⟩
  · go_wp2_with fail
    refine (kl _).mono ?_
    rintro e w3 ⟨rfl, u3⟩
    obtain ⟨a0, a1, a2, a3, a4, hx⟩ := s5_grow ⟨b0, b1, b2, b3, b4, hv⟩ u3
    clear b0 b1 b2 b3 b4 hv u3 kl
    go_wp2
    go_ret
    exact ⟨rfl, hx⟩

set_option maxHeartbeats 6400000 in
theorem lesser_yes (gap slack tat now n less later T U b P N T2 : Nat) (also : Bool) (C : Int) (k1 : AdmitIs gap slack tat now n T true)
    (kl : ¬ (less : Int) ≤ (tat : Int) ∨ ((less : Int) ≤ (tat : Int) ∧ ¬ (T : Int) < (U : Int) ∧ AdmitIs gap slack less now n U true))
    (kb : ¬ (later : Int) < (now : Int) ∧ (((later : Int) < (tat : Int) ∧ b = tat) ∨ (¬ (later : Int) < (tat : Int) ∧ b = later)))
    (kp : ∀ w, Calls Try.prog 20 #[V n, V gap] w fun e w' => e = .returned (Wd P) ∧ Up w w')
    (ko : ∀ w, Calls Try.prog 22 #[V b] w fun e w' => e = .returned (Wd b) ∧ Up w w')
    (ks : ∀ w, Calls Try.prog 21 #[Wd P, Wd b] w fun e w' => e = .returned (Wd N) ∧ Up w w')
    (k2 : AdmitIs gap slack tat later n T2 also)
    (kt : ∀ w, Calls Try.prog 22 #[.int .u64 18446744073709551615] w fun e w' => e = .returned (.agg #[.int .u64 0, .int .u64 18446744073709551615]) ∧ Up w w')
    (kc : ∀ w, Calls Try.prog 23 #[Wd N, .agg #[.int .u64 0, .int .u64 18446744073709551615]] w fun e w' => e = .returned (.int .i64 C) ∧ Up w w') (hC : decide (C ≤ 0) = also) (w : World) :
    Calls Try.prog 8 #[Ak gap slack tat now n, V less, V later] w fun e w' => e = .returned (.bool true) ∧ Up w w' := by
  go_enter Try.func8, Try.ntmps8
  go_wp2_with fail
  refine (lives_any _).mono ?_
  rintro e w1 ⟨rfl, u1⟩
  have hs := s5_grow (s5_new w gap slack tat now n) u1
  generalize w.heap.size = g at hs ⊢
  clear u1
  obtain ⟨a0, a1, a2, a3, a4, hu⟩ := hs
  go_wp2_with fail
  refine (k1 _).mono ?_
  rintro e w2 ⟨rfl, u2⟩
  obtain ⟨b0, b1, b2, b3, b4, hv⟩ := s5_grow ⟨a0, a1, a2, a3, a4, hu⟩ u2
  clear a0 a1 a2 a3 a4 hu u2 k1
  rcases kl with c1 | ⟨c1, c2, kl⟩
  · rcases kb with ⟨c3, ⟨c4, rfl⟩ | ⟨c4, rfl⟩⟩
    · go_wp2_with fail
      refine (kp _).mono ?_
      rintro e w4 ⟨rfl, u4⟩
      go_wp2_with fail
      refine (ko _).mono ?_
      rintro e w5 ⟨rfl, u5⟩
      go_wp2_with fail
      refine (ks _).mono ?_
      rintro e w6 ⟨rfl, u6⟩
      have hs := s7_new (s5_grow ⟨b0, b1, b2, b3, b4, hv⟩ (u4.trans (u5.trans u6))) N
      clear b0 b1 b2 b3 b4 hv u4 u5 u6 kp ko ks
      obtain ⟨d0, d1, e0, e1, e2, e3, e4, hy⟩ := hs
      go_wp2_with fail
      generalize w6.heap.size = k at *
      generalize w6.alloc (.cells #[V (hiN N), V (loN N)] 36) = w7 at *
      refine (k2 _).mono ?_
      rintro e w8 ⟨rfl, u8⟩
      have hs7 := s7_grow (s7_grow ⟨d0, d1, e0, e1, e2, e3, e4, hy⟩ u8) (Up.drew _)
      clear d0 d1 e0 e1 e2 e3 e4 hy u8 k2
      have hs : S2 w k N _ := ⟨hs7.1, hs7.2.1, hs7.2.2.2.2.2.2.2⟩
      clear hs7
      go_wp2_with fail
      go_region_held3 (fun w' => w'.cell? ⟨k, 0, none⟩ = some (V (hiN N)) ∧ w'.cell? ⟨k, 1, none⟩ = some (V (loN N)) ∧ Up w w') (exact hs)
        (first
        | (go_at_call 22; refine (kt _).mono ?_; rintro e w9 ⟨rfl, u9⟩; replace hs := s2_grow hs u9)
        | (go_at_call 23; refine (kc _).mono ?_; rintro e w10 ⟨rfl, u10⟩; replace hs := s2_grow hs u10))
      all_goals (go_wp2; go_ret; exact ⟨rfl, hs.2.2⟩)
    · go_wp2_with fail
      refine (kp _).mono ?_
      rintro e w4 ⟨rfl, u4⟩
      go_wp2_with fail
      refine (ko _).mono ?_
      rintro e w5 ⟨rfl, u5⟩
      go_wp2_with fail
      refine (ks _).mono ?_
      rintro e w6 ⟨rfl, u6⟩
      have hs := s7_new (s5_grow ⟨b0, b1, b2, b3, b4, hv⟩ (u4.trans (u5.trans u6))) N
      clear b0 b1 b2 b3 b4 hv u4 u5 u6 kp ko ks
      obtain ⟨d0, d1, e0, e1, e2, e3, e4, hy⟩ := hs
      go_wp2_with fail
      generalize w6.heap.size = k at *
      generalize w6.alloc (.cells #[V (hiN N), V (loN N)] 36) = w7 at *
      refine (k2 _).mono ?_
      rintro e w8 ⟨rfl, u8⟩
      have hs7 := s7_grow (s7_grow ⟨d0, d1, e0, e1, e2, e3, e4, hy⟩ u8) (Up.drew _)
      clear d0 d1 e0 e1 e2 e3 e4 hy u8 k2
      have hs : S2 w k N _ := ⟨hs7.1, hs7.2.1, hs7.2.2.2.2.2.2.2⟩
      clear hs7
      go_wp2_with fail
      go_region_held3 (fun w' => w'.cell? ⟨k, 0, none⟩ = some (V (hiN N)) ∧ w'.cell? ⟨k, 1, none⟩ = some (V (loN N)) ∧ Up w w') (exact hs)
        (first
        | (go_at_call 22; refine (kt _).mono ?_; rintro e w9 ⟨rfl, u9⟩; replace hs := s2_grow hs u9)
        | (go_at_call 23; refine (kc _).mono ?_; rintro e w10 ⟨rfl, u10⟩; replace hs := s2_grow hs u10))
      all_goals (go_wp2; go_ret; exact ⟨rfl, hs.2.2⟩)
  · rcases kb with ⟨c3, ⟨c4, rfl⟩ | ⟨c4, rfl⟩⟩
    · go_wp2_with fail
      refine (kl _).mono ?_
      rintro e w3 ⟨rfl, u3⟩
      obtain ⟨a0, a1, a2, a3, a4, hx⟩ := s5_grow ⟨b0, b1, b2, b3, b4, hv⟩ u3
      clear b0 b1 b2 b3 b4 hv u3 kl
      go_wp2_with fail
      refine (kp _).mono ?_
      rintro e w4 ⟨rfl, u4⟩
      go_wp2_with fail
      refine (ko _).mono ?_
      rintro e w5 ⟨rfl, u5⟩
      go_wp2_with fail
      refine (ks _).mono ?_
      rintro e w6 ⟨rfl, u6⟩
      have hs := s7_new (s5_grow ⟨a0, a1, a2, a3, a4, hx⟩ (u4.trans (u5.trans u6))) N
      clear a0 a1 a2 a3 a4 hx u4 u5 u6 kp ko ks
      obtain ⟨d0, d1, e0, e1, e2, e3, e4, hy⟩ := hs
      go_wp2_with fail
      generalize w6.heap.size = k at *
      generalize w6.alloc (.cells #[V (hiN N), V (loN N)] 36) = w7 at *
      refine (k2 _).mono ?_
      rintro e w8 ⟨rfl, u8⟩
      have hs7 := s7_grow (s7_grow ⟨d0, d1, e0, e1, e2, e3, e4, hy⟩ u8) (Up.drew _)
      clear d0 d1 e0 e1 e2 e3 e4 hy u8 k2
      have hs : S2 w k N _ := ⟨hs7.1, hs7.2.1, hs7.2.2.2.2.2.2.2⟩
      clear hs7
      go_wp2_with fail
      go_region_held3 (fun w' => w'.cell? ⟨k, 0, none⟩ = some (V (hiN N)) ∧ w'.cell? ⟨k, 1, none⟩ = some (V (loN N)) ∧ Up w w') (exact hs)
        (first
        | (go_at_call 22; refine (kt _).mono ?_; rintro e w9 ⟨rfl, u9⟩; replace hs := s2_grow hs u9)
        | (go_at_call 23; refine (kc _).mono ?_; rintro e w10 ⟨rfl, u10⟩; replace hs := s2_grow hs u10))
      all_goals (go_wp2; go_ret; exact ⟨rfl, hs.2.2⟩)
    · go_wp2_with fail
      refine (kl _).mono ?_
      rintro e w3 ⟨rfl, u3⟩
      obtain ⟨a0, a1, a2, a3, a4, hx⟩ := s5_grow ⟨b0, b1, b2, b3, b4, hv⟩ u3
      clear b0 b1 b2 b3 b4 hv u3 kl
      go_wp2_with fail
      refine (kp _).mono ?_
      rintro e w4 ⟨rfl, u4⟩
      go_wp2_with fail
      refine (ko _).mono ?_
      rintro e w5 ⟨rfl, u5⟩
      go_wp2_with fail
      refine (ks _).mono ?_
      rintro e w6 ⟨rfl, u6⟩
      have hs := s7_new (s5_grow ⟨a0, a1, a2, a3, a4, hx⟩ (u4.trans (u5.trans u6))) N
      clear a0 a1 a2 a3 a4 hx u4 u5 u6 kp ko ks
      obtain ⟨d0, d1, e0, e1, e2, e3, e4, hy⟩ := hs
      go_wp2_with fail
      generalize w6.heap.size = k at *
      generalize w6.alloc (.cells #[V (hiN N), V (loN N)] 36) = w7 at *
      refine (k2 _).mono ?_
      rintro e w8 ⟨rfl, u8⟩
      have hs7 := s7_grow (s7_grow ⟨d0, d1, e0, e1, e2, e3, e4, hy⟩ u8) (Up.drew _)
      clear d0 d1 e0 e1 e2 e3 e4 hy u8 k2
      have hs : S2 w k N _ := ⟨hs7.1, hs7.2.1, hs7.2.2.2.2.2.2.2⟩
      clear hs7
      go_wp2_with fail
      go_region_held3 (fun w' => w'.cell? ⟨k, 0, none⟩ = some (V (hiN N)) ∧ w'.cell? ⟨k, 1, none⟩ = some (V (loN N)) ∧ Up w w') (exact hs)
        (first
        | (go_at_call 22; refine (kt _).mono ?_; rintro e w9 ⟨rfl, u9⟩; replace hs := s2_grow hs u9)
        | (go_at_call 23; refine (kc _).mono ?_; rintro e w10 ⟨rfl, u10⟩; replace hs := s2_grow hs u10))
      all_goals (go_wp2; go_ret; exact ⟨rfl, hs.2.2⟩)

theorem GcraLesser_any (gap slack tat now n less later : Nat) (hg : N64 gap) (hs : N64 slack) (ht : N64 tat) (hw : N64 now) (hn : N64 n) (hl : N64 less) (hr : N64 later) (w : World) :
    Calls Try.prog 8 #[Ak gap slack tat now n, V less, V later] w fun e w' => e = .returned (.bool true) ∧ Up w w' := by
  have k1 := Admit_any gap slack tat now n hg hs ht hw hn
  by_cases hf : GFits gap slack tat now n
  · have e1 : gTat gap slack tat now n = gBase tat now + n * gap := if_pos hf
    rw [decide_eq_true hf] at k1
    have hb := gBase_max tat later
    have k2 := Admit_any gap slack tat later n hg hs ht hr hn
    have hnb := base_sum_lt gap (gBase tat later) n hg (base_lt tat later ht hr) hn
    have hle : ∀ (hc : now ≤ later), decide (cmpN (n * gap + gBase tat later) 18446744073709551615 ≤ 0) = decide (GFits gap slack tat later n) := by
      intro hc
      have h2 := fits_later hf hc
      unfold cmpN
      by_cases h : gBase tat later + n * gap ≤ 18446744073709551615
      · rw [decide_eq_true (h2.2 h)]
        apply decide_eq_true
        split
        · omega
        · split <;> omega
      · rw [decide_eq_false (fun x => h (h2.1 x))]
        apply decide_eq_false
        rw [if_neg (by omega), if_neg (by omega)]
        omega
    have kp := Product_any n gap hn hg
    have ko := Of_any (gBase tat later) (base_lt tat later ht hr)
    have ks := Plus_any (n * gap) (gBase tat later) (by unfold N128 at *; omega) (by unfold N128 at *; omega)
    rw [plus_small _ _ hnb] at ks
    have kt : ∀ w, Calls Try.prog 22 #[.int .u64 18446744073709551615] w fun e w' => e = .returned (.agg #[.int .u64 0, .int .u64 18446744073709551615]) ∧ Up w w' := fun w => Of_any 18446744073709551615 (by unfold N64; omega) w
    have kc : ∀ w, Calls Try.prog 23 #[Wd (n * gap + gBase tat later), .agg #[.int .u64 0, .int .u64 18446744073709551615]] w fun e w' => e = .returned (.int .i64 (cmpN (n * gap + gBase tat later) 18446744073709551615)) ∧ Up w w' := fun w => Cmp_any _ 18446744073709551615 w
    have kl : ¬ (less : Int) ≤ (tat : Int) ∨ ((less : Int) ≤ (tat : Int) ∧ ¬ (gTat gap slack tat now n : Int) < (gTat gap slack less now n : Int) ∧ AdmitIs gap slack less now n (gTat gap slack less now n) true) := by
      by_cases h : less ≤ tat
      · obtain ⟨f1, f2⟩ := fits_lesser hf h
        have e2 : gTat gap slack less now n = gBase less now + n * gap := if_pos f1
        have k3 := Admit_any gap slack less now n hg hs hl hw hn
        rw [decide_eq_true f1] at k3
        exact Or.inr ⟨by omega, by rw [e1, e2]; omega, k3⟩
      · exact Or.inl (by omega)
    by_cases hc : now ≤ later
    · refine lesser_yes gap slack tat now n less later _ _ (gBase tat later) _ _ _ _ _ k1 kl ⟨by omega, ?_⟩ kp ko ks k2 kt kc (hle hc) w
      unfold gBase
      split
      · exact Or.inl ⟨by omega, rfl⟩
      · exact Or.inr ⟨by omega, rfl⟩
    · exact lesser_early gap slack tat now n less later _ _ k1 kl (by omega) w
  · have e1 : gTat gap slack tat now n = tat := if_neg hf
    rw [e1, decide_eq_false hf] at k1
    exact lesser_not gap slack tat now n less later k1 w
end Go.Proofs.Ytipbpppdifplbaa
