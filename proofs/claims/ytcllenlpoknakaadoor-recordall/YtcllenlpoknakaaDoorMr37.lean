/- Merged: RcRefE. -/
import Derived.Test.YtcllenlpoknakaaDoorMr36
import Derived.Test.YtcllenlpoknakaaDoorMr33
set_option linter.unusedVariables false
set_option linter.unusedSimpArgs false
namespace Go.Proofs.YtcllenlpoknakaaDoor
open Go Go.RowKit

theorem own_oneAt {w : World} {k : Nat} (c : UInt8) (e : w.heap.size = k) : Own (w.alloc (.cells #[B c] 5)) 5 k (.slice (some ⟨k, 0, none⟩) 1 1) [c] := by
  subst e
  exact ⟨rfl, .inr ⟨_, 1, _, rfl, Nat.le_refl _, heap_alloc_new _ _, Nat.le_refl _, by unfold maxLen; omega, rfl, rfl⟩⟩
theorem qEncode_arg (k : Int) (f : Nat) (S : ByteArray) (pk : Int) (g s l p t i c : Nat) (w : World)
    (hV : ∀ w, Calls Tryd.prog 17 #[RcV k f S pk g s l p t i c] w fun e w' => e = .returned (.bool false) ∧ Up w w') :
    Calls Tryd.prog 18 #[RcV k f S pk g s l p t i c] w fun e w' => e = .returned (.tuple #[.slice none 0 0, .int .i64 1]) ∧ Up w w' := by
  go_enter Tryd.func18, Tryd.ntmps18
  go_wp2_with fail
  refine (hV _).mono ?_
  rintro e w1 ⟨rfl, u1⟩
  go_wp2
  go_ret2
  exact ⟨rfl, (Up.alloc _ _).trans u1⟩

set_option maxHeartbeats 1600000 in
theorem qEncode_flow (f : Nat) (S : ByteArray) (g s l p t i c : Nat) (w : World) (hn : (S.size : Int) ≤ 64) (hf : Hid (f < 2 ^ 64)) (hg : Hid (g < 2 ^ 64)) (hs : Hid (s < 2 ^ 64))
    (hV : ∀ w, Calls Tryd.prog 17 #[RcV 1 f S 1 g s l p t i c] w fun e w' => e = .returned (.bool true) ∧ Up w w') :
    Calls Tryd.prog 18 #[RcV 1 f S 1 g s l p t i c] w fun e w' => ∃ v', e = .returned (.tuple #[v', .int .i64 0]) ∧ Own w' 5 w.heap.size v' (((([1] : List UInt8) ++ bl 8 f) ++ bl 2 S.size ++ Sb S) ++ (bl 1 1 ++ (bl 8 g ++ bl 8 s))) ∧ Up w w' := by
  have b0 : Box (w.alloc (.cells #[.int .i64 1, V f, .string S, .int .i64 1, V g, V s, V l, V p, V t, V i, V c] 32)) w.heap.size #[.int .i64 1, V f, .string S, .int .i64 1, V g, V s, V l, V p, V t, V i, V c] := Box.new _ _ _
  go_enter Tryd.func18, Tryd.ntmps18
  go_wp2_with fail
  refine (hV _).mono ?_
  rintro e w1 ⟨rfl, u1⟩
  have b1 := b0.up u1
  have U1 : Up w w1 := (Up.alloc _ _).trans u1
  have hlt := b1.lt
  clear u1 b0 hV
  obtain ⟨K, hK⟩ : ∃ K, w1.heap.size = K := ⟨_, rfl⟩
  have hlt2 : w.heap.size < K := by omega
  have bW := b1.alloc (.cells #[B (1 : UInt8)] 5)
  have hne : Hid ((Value.slice (some ⟨K, 0, none⟩) 1 1).ownBlock ≠ some w.heap.size) := by
    intro e
    have : K = w.heap.size := by simpa [Value.ownBlock] using e
    omega
  have hw : Hid (w.heap.size ≤ K) := by show w.heap.size ≤ K; omega
  have o1 := own_oneAt (w := w1) (1 : UInt8) hK
  have T1 := Tl.start o1
  have z1 : K ≤ (w1.alloc (.cells #[B (1 : UInt8)] 5)).heap.size := by simp; omega
  have UW := U1.trans (Up.alloc w1 (.cells #[B (1 : UInt8)] 5))
  have HO := show Hid _ from o1
  have l2 : Hid ((([1] : List UInt8) ++ bl 8 f).length = 9) := by show (([1] : List UInt8) ++ bl 8 f).length = 9; rw [List.length_append, bl_length]; rfl
  have l3 : Hid (((([1] : List UInt8) ++ bl 8 f) ++ bl 2 S.size ++ Sb S).length ≤ 1000) := by
    show ((([1] : List UInt8) ++ bl 8 f) ++ bl 2 S.size ++ Sb S).length ≤ 1000
    rw [List.length_append, List.length_append, bl_length, Sb_len]
    have := l2.out
    omega
  obtain ⟨c0, c1, c2, c3, c4, c5, c6, c7, c8, c9, c10⟩ := b1.c11
  clear o1
  go_wp2_with fail
  try rw [hK]
  refine (qPut_any K _ [1] f 8 _ HO.out z1 (by simp) (by omega) hf.out).mono ?_
  rintro e w2 ⟨v2, rfl, T2⟩
  have z2 : K ≤ w2.heap.size := Nat.le_trans z1 T2.old.size
  have b2 := T2.box bW hne.out
  have y2 := b2.lt
  clear T1 z1 b1 c0 c1 c2 c3 c4 c5 c6 c7 c8 c9 c10
  obtain ⟨c0, c1, c2, c3, c4, c5, c6, c7, c8, c9, c10⟩ := b2.c11
  go_wp2_with fail
  refine (qPutText_any K v2 _ S _ T2.own z2 (by have := l2.out; show _ ≤ 1000000; omega) hn).mono ?_
  rintro e w3 ⟨v3, rfl, T'⟩
  have T3 := T2.trans T'
  have z3 := Nat.le_trans z2 T'.old.size
  have b3 := T3.box bW hne.out
  have y3 := b3.lt
  clear c0 c1 c2 c3 c4 c5 c6 c7 c8 c9 c10
  clear T' b2 T2 y2
  obtain ⟨c0, c1, c2, c3, c4, c5, c6, c7, c8, c9, c10⟩ := b3.c11
  go_wp2_with fail
  refine (qPutPolicy_1 K v3 _ g s l p _ T3.own z3 (by have := l3.out; show _ ≤ 1000000; omega) hg hs).mono ?_
  rintro e w4 ⟨v4, rfl, T'⟩
  have T4 := T3.trans T'
  have z4 := Nat.le_trans z3 T'.old.size
  have b4 := T4.box bW hne.out
  have y4 := b4.lt
  clear c0 c1 c2 c3 c4 c5 c6 c7 c8 c9 c10
  clear T' b3 T3 y3
  obtain ⟨c0, c1, c2, c3, c4, c5, c6, c7, c8, c9, c10⟩ := b4.c11
  have B9 := T4.below HO.out (Nat.le_refl _) (by simp; omega)
  have o9 := ownR_low T4.own hw.out
  clear c0 c1 c2 c3 c4 c5 c6 c7 c8 c9 c10 b4 T4 y4
  go_wp2
  go_ret2
  exact ⟨v4, rfl, by (have h := o9; simp only [List.append_assoc] at h ⊢; exact h), Below.trans UW (B9.mono hw.out)⟩

set_option maxHeartbeats 1600000 in
theorem qEncode_grid (f : Nat) (S : ByteArray) (g s l p t i c : Nat) (w : World) (hn : (S.size : Int) ≤ 64) (hf : Hid (f < 2 ^ 64)) (hg : Hid (l < 2 ^ 64)) (hs : Hid (p < 2 ^ 64))
    (hV : ∀ w, Calls Tryd.prog 17 #[RcV 1 f S 2 g s l p t i c] w fun e w' => e = .returned (.bool true) ∧ Up w w') :
    Calls Tryd.prog 18 #[RcV 1 f S 2 g s l p t i c] w fun e w' => ∃ v', e = .returned (.tuple #[v', .int .i64 0]) ∧ Own w' 5 w.heap.size v' (((([1] : List UInt8) ++ bl 8 f) ++ bl 2 S.size ++ Sb S) ++ (bl 1 2 ++ (bl 8 l ++ bl 8 p))) ∧ Up w w' := by
  have b0 : Box (w.alloc (.cells #[.int .i64 1, V f, .string S, .int .i64 2, V g, V s, V l, V p, V t, V i, V c] 32)) w.heap.size #[.int .i64 1, V f, .string S, .int .i64 2, V g, V s, V l, V p, V t, V i, V c] := Box.new _ _ _
  go_enter Tryd.func18, Tryd.ntmps18
  go_wp2_with fail
  refine (hV _).mono ?_
  rintro e w1 ⟨rfl, u1⟩
  have b1 := b0.up u1
  have U1 : Up w w1 := (Up.alloc _ _).trans u1
  have hlt := b1.lt
  clear u1 b0 hV
  obtain ⟨K, hK⟩ : ∃ K, w1.heap.size = K := ⟨_, rfl⟩
  have hlt2 : w.heap.size < K := by omega
  have bW := b1.alloc (.cells #[B (1 : UInt8)] 5)
  have hne : Hid ((Value.slice (some ⟨K, 0, none⟩) 1 1).ownBlock ≠ some w.heap.size) := by
    intro e
    have : K = w.heap.size := by simpa [Value.ownBlock] using e
    omega
  have hw : Hid (w.heap.size ≤ K) := by show w.heap.size ≤ K; omega
  have o1 := own_oneAt (w := w1) (1 : UInt8) hK
  have T1 := Tl.start o1
  have z1 : K ≤ (w1.alloc (.cells #[B (1 : UInt8)] 5)).heap.size := by simp; omega
  have UW := U1.trans (Up.alloc w1 (.cells #[B (1 : UInt8)] 5))
  have HO := show Hid _ from o1
  have l2 : Hid ((([1] : List UInt8) ++ bl 8 f).length = 9) := by show (([1] : List UInt8) ++ bl 8 f).length = 9; rw [List.length_append, bl_length]; rfl
  have l3 : Hid (((([1] : List UInt8) ++ bl 8 f) ++ bl 2 S.size ++ Sb S).length ≤ 1000) := by
    show ((([1] : List UInt8) ++ bl 8 f) ++ bl 2 S.size ++ Sb S).length ≤ 1000
    rw [List.length_append, List.length_append, bl_length, Sb_len]
    have := l2.out
    omega
  obtain ⟨c0, c1, c2, c3, c4, c5, c6, c7, c8, c9, c10⟩ := b1.c11
  clear o1
  go_wp2_with fail
  try rw [hK]
  refine (qPut_any K _ [1] f 8 _ HO.out z1 (by simp) (by omega) hf.out).mono ?_
  rintro e w2 ⟨v2, rfl, T2⟩
  have z2 : K ≤ w2.heap.size := Nat.le_trans z1 T2.old.size
  have b2 := T2.box bW hne.out
  have y2 := b2.lt
  clear T1 z1 b1 c0 c1 c2 c3 c4 c5 c6 c7 c8 c9 c10
  obtain ⟨c0, c1, c2, c3, c4, c5, c6, c7, c8, c9, c10⟩ := b2.c11
  go_wp2_with fail
  refine (qPutText_any K v2 _ S _ T2.own z2 (by have := l2.out; show _ ≤ 1000000; omega) hn).mono ?_
  rintro e w3 ⟨v3, rfl, T'⟩
  have T3 := T2.trans T'
  have z3 := Nat.le_trans z2 T'.old.size
  have b3 := T3.box bW hne.out
  have y3 := b3.lt
  clear c0 c1 c2 c3 c4 c5 c6 c7 c8 c9 c10
  clear T' b2 T2 y2
  obtain ⟨c0, c1, c2, c3, c4, c5, c6, c7, c8, c9, c10⟩ := b3.c11
  go_wp2_with fail
  refine (qPutPolicy_2 K v3 _ g s l p _ T3.own z3 (by have := l3.out; show _ ≤ 1000000; omega) hg hs).mono ?_
  rintro e w4 ⟨v4, rfl, T'⟩
  have T4 := T3.trans T'
  have z4 := Nat.le_trans z3 T'.old.size
  have b4 := T4.box bW hne.out
  have y4 := b4.lt
  clear c0 c1 c2 c3 c4 c5 c6 c7 c8 c9 c10
  clear T' b3 T3 y3
  obtain ⟨c0, c1, c2, c3, c4, c5, c6, c7, c8, c9, c10⟩ := b4.c11
  have B9 := T4.below HO.out (Nat.le_refl _) (by simp; omega)
  have o9 := ownR_low T4.own hw.out
  clear c0 c1 c2 c3 c4 c5 c6 c7 c8 c9 c10 b4 T4 y4
  go_wp2
  go_ret2
  exact ⟨v4, rfl, by (have h := o9; simp only [List.append_assoc] at h ⊢; exact h), Below.trans UW (B9.mono hw.out)⟩

set_option maxHeartbeats 1600000 in
theorem qEncode_del (f : Nat) (S : ByteArray) (pk : Int) (g s l p t i c : Nat) (w : World) (hn : (S.size : Int) ≤ 64) (hf : Hid (f < 2 ^ 64))
    (hV : ∀ w, Calls Tryd.prog 17 #[RcV 2 f S pk g s l p t i c] w fun e w' => e = .returned (.bool true) ∧ Up w w') :
    Calls Tryd.prog 18 #[RcV 2 f S pk g s l p t i c] w fun e w' => ∃ v', e = .returned (.tuple #[v', .int .i64 0]) ∧ Own w' 5 w.heap.size v' (((([2] : List UInt8) ++ bl 8 f) ++ bl 2 S.size ++ Sb S)) ∧ Up w w' := by
  have b0 : Box (w.alloc (.cells #[.int .i64 2, V f, .string S, .int .i64 pk, V g, V s, V l, V p, V t, V i, V c] 32)) w.heap.size #[.int .i64 2, V f, .string S, .int .i64 pk, V g, V s, V l, V p, V t, V i, V c] := Box.new _ _ _
  go_enter Tryd.func18, Tryd.ntmps18
  go_wp2_with fail
  refine (hV _).mono ?_
  rintro e w1 ⟨rfl, u1⟩
  have b1 := b0.up u1
  have U1 : Up w w1 := (Up.alloc _ _).trans u1
  have hlt := b1.lt
  clear u1 b0 hV
  obtain ⟨K, hK⟩ : ∃ K, w1.heap.size = K := ⟨_, rfl⟩
  have hlt2 : w.heap.size < K := by omega
  have bW := b1.alloc (.cells #[B (2 : UInt8)] 5)
  have hne : Hid ((Value.slice (some ⟨K, 0, none⟩) 1 1).ownBlock ≠ some w.heap.size) := by
    intro e
    have : K = w.heap.size := by simpa [Value.ownBlock] using e
    omega
  have hw : Hid (w.heap.size ≤ K) := by show w.heap.size ≤ K; omega
  have o1 := own_oneAt (w := w1) (2 : UInt8) hK
  have T1 := Tl.start o1
  have z1 : K ≤ (w1.alloc (.cells #[B (2 : UInt8)] 5)).heap.size := by simp; omega
  have UW := U1.trans (Up.alloc w1 (.cells #[B (2 : UInt8)] 5))
  have HO := show Hid _ from o1
  have l2 : Hid ((([2] : List UInt8) ++ bl 8 f).length = 9) := by show (([2] : List UInt8) ++ bl 8 f).length = 9; rw [List.length_append, bl_length]; rfl
  have l3 : Hid (((([2] : List UInt8) ++ bl 8 f) ++ bl 2 S.size ++ Sb S).length ≤ 1000) := by
    show ((([2] : List UInt8) ++ bl 8 f) ++ bl 2 S.size ++ Sb S).length ≤ 1000
    rw [List.length_append, List.length_append, bl_length, Sb_len]
    have := l2.out
    omega
  obtain ⟨c0, c1, c2, c3, c4, c5, c6, c7, c8, c9, c10⟩ := b1.c11
  clear o1
  go_wp2_with fail
  try rw [hK]
  refine (qPut_any K _ [2] f 8 _ HO.out z1 (by simp) (by omega) hf.out).mono ?_
  rintro e w2 ⟨v2, rfl, T2⟩
  have z2 : K ≤ w2.heap.size := Nat.le_trans z1 T2.old.size
  have b2 := T2.box bW hne.out
  have y2 := b2.lt
  clear T1 z1 b1 c0 c1 c2 c3 c4 c5 c6 c7 c8 c9 c10
  obtain ⟨c0, c1, c2, c3, c4, c5, c6, c7, c8, c9, c10⟩ := b2.c11
  go_wp2_with fail
  refine (qPutText_any K v2 _ S _ T2.own z2 (by have := l2.out; show _ ≤ 1000000; omega) hn).mono ?_
  rintro e w3 ⟨v3, rfl, T'⟩
  have T3 := T2.trans T'
  have z3 := Nat.le_trans z2 T'.old.size
  have b3 := T3.box bW hne.out
  have y3 := b3.lt
  clear c0 c1 c2 c3 c4 c5 c6 c7 c8 c9 c10
  clear T' b2 T2 y2
  obtain ⟨c0, c1, c2, c3, c4, c5, c6, c7, c8, c9, c10⟩ := b3.c11
  have B9 := T3.below HO.out (Nat.le_refl _) (by simp; omega)
  have o9 := ownR_low T3.own hw.out
  go_wp2
  go_ret2
  exact ⟨v3, rfl, by (have h := o9; simp only [List.append_assoc] at h ⊢; exact h), Below.trans UW (B9.mono hw.out)⟩

set_option maxHeartbeats 1600000 in
theorem qEncode_ceil (f : Nat) (S : ByteArray) (pk : Int) (g s l p t i c : Nat) (w : World) (hn : (S.size : Int) ≤ 64) (hf : Hid (f < 2 ^ 64)) (ht : Hid (t < 2 ^ 64)) (hi : Hid (i < 2 ^ 64)) (hc : Hid (c < 2 ^ 64))
    (hV : ∀ w, Calls Tryd.prog 17 #[RcV 3 f S pk g s l p t i c] w fun e w' => e = .returned (.bool true) ∧ Up w w') :
    Calls Tryd.prog 18 #[RcV 3 f S pk g s l p t i c] w fun e w' => ∃ v', e = .returned (.tuple #[v', .int .i64 0]) ∧ Own w' 5 w.heap.size v' (((([3] : List UInt8) ++ bl 8 f) ++ bl 2 S.size ++ Sb S) ++ (bl 8 t ++ (bl 8 i ++ bl 8 c))) ∧ Up w w' := by
  have b0 : Box (w.alloc (.cells #[.int .i64 3, V f, .string S, .int .i64 pk, V g, V s, V l, V p, V t, V i, V c] 32)) w.heap.size #[.int .i64 3, V f, .string S, .int .i64 pk, V g, V s, V l, V p, V t, V i, V c] := Box.new _ _ _
  go_enter Tryd.func18, Tryd.ntmps18
  go_wp2_with fail
  refine (hV _).mono ?_
  rintro e w1 ⟨rfl, u1⟩
  have b1 := b0.up u1
  have U1 : Up w w1 := (Up.alloc _ _).trans u1
  have hlt := b1.lt
  clear u1 b0 hV
  obtain ⟨K, hK⟩ : ∃ K, w1.heap.size = K := ⟨_, rfl⟩
  have hlt2 : w.heap.size < K := by omega
  have bW := b1.alloc (.cells #[B (3 : UInt8)] 5)
  have hne : Hid ((Value.slice (some ⟨K, 0, none⟩) 1 1).ownBlock ≠ some w.heap.size) := by
    intro e
    have : K = w.heap.size := by simpa [Value.ownBlock] using e
    omega
  have hw : Hid (w.heap.size ≤ K) := by show w.heap.size ≤ K; omega
  have o1 := own_oneAt (w := w1) (3 : UInt8) hK
  have T1 := Tl.start o1
  have z1 : K ≤ (w1.alloc (.cells #[B (3 : UInt8)] 5)).heap.size := by simp; omega
  have UW := U1.trans (Up.alloc w1 (.cells #[B (3 : UInt8)] 5))
  have HO := show Hid _ from o1
  have l2 : Hid ((([3] : List UInt8) ++ bl 8 f).length = 9) := by show (([3] : List UInt8) ++ bl 8 f).length = 9; rw [List.length_append, bl_length]; rfl
  have l3 : Hid (((([3] : List UInt8) ++ bl 8 f) ++ bl 2 S.size ++ Sb S).length ≤ 1000) := by
    show ((([3] : List UInt8) ++ bl 8 f) ++ bl 2 S.size ++ Sb S).length ≤ 1000
    rw [List.length_append, List.length_append, bl_length, Sb_len]
    have := l2.out
    omega
  obtain ⟨c0, c1, c2, c3, c4, c5, c6, c7, c8, c9, c10⟩ := b1.c11
  clear o1
  go_wp2_with fail
  try rw [hK]
  refine (qPut_any K _ [3] f 8 _ HO.out z1 (by simp) (by omega) hf.out).mono ?_
  rintro e w2 ⟨v2, rfl, T2⟩
  have z2 : K ≤ w2.heap.size := Nat.le_trans z1 T2.old.size
  have b2 := T2.box bW hne.out
  have y2 := b2.lt
  clear T1 z1 b1 c0 c1 c2 c3 c4 c5 c6 c7 c8 c9 c10
  obtain ⟨c0, c1, c2, c3, c4, c5, c6, c7, c8, c9, c10⟩ := b2.c11
  go_wp2_with fail
  refine (qPutText_any K v2 _ S _ T2.own z2 (by have := l2.out; show _ ≤ 1000000; omega) hn).mono ?_
  rintro e w3 ⟨v3, rfl, T'⟩
  have T3 := T2.trans T'
  have z3 := Nat.le_trans z2 T'.old.size
  have b3 := T3.box bW hne.out
  have y3 := b3.lt
  clear c0 c1 c2 c3 c4 c5 c6 c7 c8 c9 c10
  clear T' b2 T2 y2
  obtain ⟨c0, c1, c2, c3, c4, c5, c6, c7, c8, c9, c10⟩ := b3.c11
  go_wp2_with fail
  refine (qPut_any K v3 _ t 8 _ T3.own z3 (by have := l3.out; simp only [List.length_append, bl_length] at this ⊢; omega) (by omega) ht.out).mono ?_
  rintro e w4 ⟨v4, rfl, T'⟩
  have T4 := T3.trans T'
  have z4 := Nat.le_trans z3 T'.old.size
  have b4 := T4.box bW hne.out
  have y4 := b4.lt
  clear c0 c1 c2 c3 c4 c5 c6 c7 c8 c9 c10
  clear T' b3 T3 y3
  obtain ⟨c0, c1, c2, c3, c4, c5, c6, c7, c8, c9, c10⟩ := b4.c11
  go_wp2_with fail
  refine (qPut_any K v4 _ i 8 _ T4.own z4 (by have := l3.out; simp only [List.length_append, bl_length] at this ⊢; omega) (by omega) hi.out).mono ?_
  rintro e w5 ⟨v5, rfl, T'⟩
  have T5 := T4.trans T'
  have z5 := Nat.le_trans z4 T'.old.size
  have b5 := T5.box bW hne.out
  have y5 := b5.lt
  clear c0 c1 c2 c3 c4 c5 c6 c7 c8 c9 c10
  clear T' b4 T4 y4
  obtain ⟨c0, c1, c2, c3, c4, c5, c6, c7, c8, c9, c10⟩ := b5.c11
  go_wp2_with fail
  refine (qPut_any K v5 _ c 8 _ T5.own z5 (by have := l3.out; simp only [List.length_append, bl_length] at this ⊢; omega) (by omega) hc.out).mono ?_
  rintro e w6 ⟨v6, rfl, T'⟩
  have T6 := T5.trans T'
  have z6 := Nat.le_trans z5 T'.old.size
  have b6 := T6.box bW hne.out
  have y6 := b6.lt
  clear c0 c1 c2 c3 c4 c5 c6 c7 c8 c9 c10
  clear T' b5 T5 y5
  obtain ⟨c0, c1, c2, c3, c4, c5, c6, c7, c8, c9, c10⟩ := b6.c11
  have B9 := T6.below HO.out (Nat.le_refl _) (by simp; omega)
  have o9 := ownR_low T6.own hw.out
  clear c0 c1 c2 c3 c4 c5 c6 c7 c8 c9 c10 b6 T6 y6
  go_wp2
  go_ret2
  exact ⟨v6, rfl, by (have h := o9; simp only [List.append_assoc] at h ⊢; exact h), Below.trans UW (B9.mono hw.out)⟩

theorem qEncode_ok (r : RecV) (w : World) (hf : Fit64 r) (hv : validR r) :
    Calls Tryd.prog 18 #[RV r] w fun e w' => ∃ v', e = .returned (.tuple #[v', .int .i64 0]) ∧ Own w' 5 w.heap.size v' (encR r) ∧ Up w w' := by
  have hV := qValid_any r
  rw [decide_eq_true hv] at hV
  have hn : ((⟨r.key.toArray⟩ : ByteArray).size : Int) ≤ 64 := by rw [key_size]; have := hv.2.1; omega
  rcases hv.2.2 with ⟨k1, hp, hl⟩ | ⟨k2, hp, hl⟩ | ⟨k3, hp, hl⟩
  · rcases hp with hp | hp
    · have e : encR r = ((([1] : List UInt8) ++ bl 8 r.floor) ++ bl 2 (⟨r.key.toArray⟩ : ByteArray).size ++ Sb ⟨r.key.toArray⟩) ++ (bl 1 1 ++ (bl 8 r.gap ++ bl 8 r.slack)) := by
        rw [key_size, Sb_key]
        simp only [encR, encH, encT, encP, k1, hp.1, if_true, List.append_assoc]
        rfl
      rw [e]
      have := qEncode_flow r.floor ⟨r.key.toArray⟩ r.gap r.slack r.limit r.span r.tat r.idx r.cnt w hn hf.floor hf.gap hf.slack (by intro w; have := hV w; simp only [RV, k1, hp.1] at this; exact this)
      rw [show RV r = RcV 1 r.floor ⟨r.key.toArray⟩ 1 r.gap r.slack r.limit r.span r.tat r.idx r.cnt by simp only [RV, k1, hp.1]]
      exact this
    · have e : encR r = ((([1] : List UInt8) ++ bl 8 r.floor) ++ bl 2 (⟨r.key.toArray⟩ : ByteArray).size ++ Sb ⟨r.key.toArray⟩) ++ (bl 1 2 ++ (bl 8 r.limit ++ bl 8 r.span)) := by
        rw [key_size, Sb_key]
        simp only [encR, encH, encT, encP, k1, hp.1, if_true, List.append_assoc]
        rfl
      rw [e]
      have := qEncode_grid r.floor ⟨r.key.toArray⟩ r.gap r.slack r.limit r.span r.tat r.idx r.cnt w hn hf.floor hf.limit hf.span (by intro w; have := hV w; simp only [RV, k1, hp.1] at this; exact this)
      rw [show RV r = RcV 1 r.floor ⟨r.key.toArray⟩ 2 r.gap r.slack r.limit r.span r.tat r.idx r.cnt by simp only [RV, k1, hp.1]]
      exact this
  · have e : encR r = (([2] : List UInt8) ++ bl 8 r.floor) ++ bl 2 (⟨r.key.toArray⟩ : ByteArray).size ++ Sb ⟨r.key.toArray⟩ := by
      rw [key_size, Sb_key]
      simp only [encR, encH, encT, k2, List.append_assoc]
      rw [if_neg (by decide), if_neg (by decide), List.append_nil]
      rfl
    rw [e]
    have := qEncode_del r.floor ⟨r.key.toArray⟩ r.pk r.gap r.slack r.limit r.span r.tat r.idx r.cnt w hn hf.floor (by intro w; have := hV w; simp only [RV, k2] at this; exact this)
    rw [show RV r = RcV 2 r.floor ⟨r.key.toArray⟩ r.pk r.gap r.slack r.limit r.span r.tat r.idx r.cnt by simp only [RV, k2]]
    exact this
  · have e : encR r = ((([3] : List UInt8) ++ bl 8 r.floor) ++ bl 2 (⟨r.key.toArray⟩ : ByteArray).size ++ Sb ⟨r.key.toArray⟩) ++ (bl 8 r.tat ++ (bl 8 r.idx ++ bl 8 r.cnt)) := by
      rw [key_size, Sb_key]
      simp only [encR, encH, encT, encL, k3, List.append_assoc]
      rw [if_neg (by decide), if_pos trivial]
      rfl
    rw [e]
    have := qEncode_ceil r.floor ⟨r.key.toArray⟩ r.pk r.gap r.slack r.limit r.span r.tat r.idx r.cnt w hn hf.floor hf.tat hf.idx hf.cnt (by intro w; have := hV w; simp only [RV, k3] at this; exact this)
    rw [show RV r = RcV 3 r.floor ⟨r.key.toArray⟩ r.pk r.gap r.slack r.limit r.span r.tat r.idx r.cnt by simp only [RV, k3]]
    exact this

/-- What the reference's Encode answers: the fault's number. -/
def qencF (r : RecV) : Nat := if validR r then 0 else 1
theorem qEncode_any (r : RecV) (w : World) (hf : Fit64 r) :
    Calls Tryd.prog 18 #[RV r] w fun e w' => ∃ v', e = .returned (.tuple #[v', .int .i64 (qencF r : Nat)]) ∧ Own w' 5 w.heap.size v' (encB r) ∧ Up w w' := by
  by_cases hv : validR r
  · simp only [qencF, encB, if_pos hv]
    exact qEncode_ok r w hf hv
  · simp only [qencF, encB, if_neg hv]
    have hV := qValid_any r
    rw [decide_eq_false hv] at hV
    refine (qEncode_arg r.kind r.floor ⟨r.key.toArray⟩ r.pk r.gap r.slack r.limit r.span r.tat r.idx r.cnt w hV).mono ?_
    rintro e w' ⟨rfl, hu⟩
    exact ⟨_, rfl, Own.nil _ _ _, hu⟩
end Go.Proofs.YtcllenlpoknakaaDoor
