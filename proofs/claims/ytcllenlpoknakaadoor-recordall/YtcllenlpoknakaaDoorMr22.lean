/- Merged: RcEncW. -/
import Derived.Test.YtcllenlpoknakaaDoorMr21
set_option linter.unusedVariables false
set_option linter.unusedSimpArgs false
namespace Go.Proofs.YtcllenlpoknakaaDoor
open Go Go.RowKit

theorem Box.c11 {w : World} {k : Nat} {a0 a1 a2 a3 a4 a5 a6 a7 a8 a9 a10 : Value} (h : Box w k #[a0, a1, a2, a3, a4, a5, a6, a7, a8, a9, a10]) : w.cell? ⟨k, 0, none⟩ = some a0 ∧ w.cell? ⟨k, 1, none⟩ = some a1 ∧ w.cell? ⟨k, 2, none⟩ = some a2 ∧ w.cell? ⟨k, 3, none⟩ = some a3 ∧ w.cell? ⟨k, 4, none⟩ = some a4 ∧ w.cell? ⟨k, 5, none⟩ = some a5 ∧ w.cell? ⟨k, 6, none⟩ = some a6 ∧ w.cell? ⟨k, 7, none⟩ = some a7 ∧ w.cell? ⟨k, 8, none⟩ = some a8 ∧ w.cell? ⟨k, 9, none⟩ = some a9 ∧ w.cell? ⟨k, 10, none⟩ = some a10 :=
  ⟨h.cell 0, h.cell 1, h.cell 2, h.cell 3, h.cell 4, h.cell 5, h.cell 6, h.cell 7, h.cell 8, h.cell 9, h.cell 10⟩
theorem sl_one (w : World) (c : UInt8) : Sl 0 (w.alloc (.cells #[B c] 5)) (.slice (some ⟨w.heap.size, 0, none⟩) 1 1) [c] := by
  refine ⟨_, _, rfl, Nat.le_refl _, (by intro h; cases h), fun _ => ⟨_, _, rfl, Nat.zero_le _, ?_⟩⟩
  intro i hi
  rw [cell_of_row _ _ _ _ _ _ (heap_alloc_new _ _)]
  have : i = 0 := by simp at hi; omega
  subst this
  rfl

theorem Encode_arg (k : Int) (f : Nat) (S : ByteArray) (pk : Int) (g s l p t i c : Nat) (w : World) (a : Addr) (hg : Gl w 0 a)
    (hV : ∀ w, Calls Tryd.prog 13 #[RcV k f S pk g s l p t i c] w fun e w' => e = .returned (.bool false) ∧ Up w w') :
    Calls Tryd.prog 12 #[RcV k f S pk g s l p t i c] w fun e w' => e = .returned (.tuple #[.slice none 0 0, E a]) ∧ Up w w' := by
  go_enter Tryd.func12, Tryd.ntmps12
  go_wp2_with fail
  refine (hV _).mono ?_
  rintro e w1 ⟨rfl, u1⟩
  have hc := (hg.up ((Up.alloc _ _).trans u1)).cell
  have U1 := (Up.alloc w (.cells #[.int .i64 k, V f, .string S, .int .i64 pk, V g, V s, V l, V p, V t, V i, V c] 32)).trans u1
  clear u1
  go_wp2
  go_quiet (fail)
  go_wp2
  go_ret2
  exact ⟨rfl, U1.trans (up_drewN _ _)⟩
theorem Up.trans' {a b c : World} {B : Nat} (h : Up a b) (hB : a.heap.size ≤ B) (k : Below B b c) : Up a c := Below.trans h (k.mono hB)

set_option maxHeartbeats 1600000 in
theorem Encode_flow (f : Nat) (S : ByteArray) (g s l p t i c : Nat) (w : World) (hn : Hid ((S.size : Int) ≤ 64)) (hf : Hid (f < 2 ^ 64)) (hg : Hid (g < 2 ^ 64)) (hs : Hid (s < 2 ^ 64))
    (hV : ∀ w, Calls Tryd.prog 13 #[RcV 1 f S 1 g s l p t i c] w fun e w' => e = .returned (.bool true) ∧ Up w w') :
    Calls Tryd.prog 12 #[RcV 1 f S 1 g s l p t i c] w fun e w' => ∃ v', e = .returned (.tuple #[v', .nilIface]) ∧ Own w' 5 w.heap.size v' (((([1] : List UInt8) ++ bl 8 f) ++ bl 2 S.size ++ Sb S) ++ (bl 1 1 ++ (bl 8 g ++ bl 8 s))) ∧ Up w w' := by
  have b0 : Box (w.alloc (.cells #[.int .i64 1, V f, .string S, .int .i64 1, V g, V s, V l, V p, V t, V i, V c] 32)) w.heap.size #[.int .i64 1, V f, .string S, .int .i64 1, V g, V s, V l, V p, V t, V i, V c] := Box.new _ _ _
  go_enter Tryd.func12, Tryd.ntmps12
  go_wp2_with fail
  refine (hV _).mono ?_
  rintro e w1 ⟨rfl, u1⟩
  have b1 := b0.up u1
  have U1 : Up w w1 := (Up.alloc _ _).trans u1
  have z1 := b1.lt
  clear u1 b0 hV
  obtain ⟨c0, c1, c2, c3, c4, c5, c6, c7, c8, c9, c10⟩ := b1.c11
  go_wp2_with fail
  refine (PutU64_any _ [1] f _ (sl_one w1 1) (by simp) hf.out).mono ?_
  rintro e w2 ⟨v2, rfl, o2, u2⟩
  have u2' := (Up.alloc w1 (.cells #[B (1 : UInt8)] 5)).trans u2
  have b2 := b1.up u2'
  have U2 := U1.trans u2'
  have z2 := u2'.size
  rw [le_blR] at o2
  have o2' := ownR_low o2 (base' := w1.heap.size) (by simp)
  clear c0 c1 c2 c3 c4 c5 c6 c7 c8 c9 c10 u2 u2' b1 U1 o2
  have l2 : Hid ((([1] : List UInt8) ++ bl 8 f).length = 9) := by show (([1] : List UInt8) ++ bl 8 f).length = 9; rw [List.length_append, bl_length]; rfl
  obtain ⟨c0, c1, c2, c3, c4, c5, c6, c7, c8, c9, c10⟩ := b2.c11
  go_wp2_with fail
  refine (PutText_ok v2 _ S _ (own_sl0 o2') (by have := l2.out; omega) (by have := hn.out; omega)).mono ?_
  rintro e w3 ⟨v3, rfl, o3, u3⟩
  have b3 := b2.up u3
  have U3 := U2.trans u3
  have z3 := u3.size
  rw [le_blR] at o3
  clear c0 c1 c2 c3 c4 c5 c6 c7 c8 c9 c10 u3 b2 U2 o2'
  have l3 : Hid (((([1] : List UInt8) ++ bl 8 f) ++ bl 2 S.size ++ Sb S).length ≤ 1000000) := by
    show ((([1] : List UInt8) ++ bl 8 f) ++ bl 2 S.size ++ Sb S).length ≤ 1000000
    rw [List.length_append, List.length_append, bl_length, Sb_len]
    have := l2.out
    have := hn.out
    omega
  obtain ⟨c0, c1, c2, c3, c4, c5, c6, c7, c8, c9, c10⟩ := b3.c11
  go_wp2_with fail
  refine (putPolicy_1 w2.heap.size v3 _ g s l p _ o3 (by omega) l3 hg hs).mono ?_
  rintro e w4 ⟨v4, rfl, o4, u4⟩
  have U4 : Up w w4 := U3.trans' (by omega) u4
  clear c0 c1 c2 c3 c4 c5 c6 c7 c8 c9 c10 o3 U3
  go_wp2
  go_ret2
  exact ⟨_, rfl, ownR_low o4 (by omega), U4⟩

set_option maxHeartbeats 1600000 in
theorem Encode_grid (f : Nat) (S : ByteArray) (g s l p t i c : Nat) (w : World) (hn : Hid ((S.size : Int) ≤ 64)) (hf : Hid (f < 2 ^ 64)) (hg : Hid (l < 2 ^ 64)) (hs : Hid (p < 2 ^ 64))
    (hV : ∀ w, Calls Tryd.prog 13 #[RcV 1 f S 2 g s l p t i c] w fun e w' => e = .returned (.bool true) ∧ Up w w') :
    Calls Tryd.prog 12 #[RcV 1 f S 2 g s l p t i c] w fun e w' => ∃ v', e = .returned (.tuple #[v', .nilIface]) ∧ Own w' 5 w.heap.size v' (((([1] : List UInt8) ++ bl 8 f) ++ bl 2 S.size ++ Sb S) ++ (bl 1 2 ++ (bl 8 l ++ bl 8 p))) ∧ Up w w' := by
  have b0 : Box (w.alloc (.cells #[.int .i64 1, V f, .string S, .int .i64 2, V g, V s, V l, V p, V t, V i, V c] 32)) w.heap.size #[.int .i64 1, V f, .string S, .int .i64 2, V g, V s, V l, V p, V t, V i, V c] := Box.new _ _ _
  go_enter Tryd.func12, Tryd.ntmps12
  go_wp2_with fail
  refine (hV _).mono ?_
  rintro e w1 ⟨rfl, u1⟩
  have b1 := b0.up u1
  have U1 : Up w w1 := (Up.alloc _ _).trans u1
  have z1 := b1.lt
  clear u1 b0 hV
  obtain ⟨c0, c1, c2, c3, c4, c5, c6, c7, c8, c9, c10⟩ := b1.c11
  go_wp2_with fail
  refine (PutU64_any _ [1] f _ (sl_one w1 1) (by simp) hf.out).mono ?_
  rintro e w2 ⟨v2, rfl, o2, u2⟩
  have u2' := (Up.alloc w1 (.cells #[B (1 : UInt8)] 5)).trans u2
  have b2 := b1.up u2'
  have U2 := U1.trans u2'
  have z2 := u2'.size
  rw [le_blR] at o2
  have o2' := ownR_low o2 (base' := w1.heap.size) (by simp)
  clear c0 c1 c2 c3 c4 c5 c6 c7 c8 c9 c10 u2 u2' b1 U1 o2
  have l2 : Hid ((([1] : List UInt8) ++ bl 8 f).length = 9) := by show (([1] : List UInt8) ++ bl 8 f).length = 9; rw [List.length_append, bl_length]; rfl
  obtain ⟨c0, c1, c2, c3, c4, c5, c6, c7, c8, c9, c10⟩ := b2.c11
  go_wp2_with fail
  refine (PutText_ok v2 _ S _ (own_sl0 o2') (by have := l2.out; omega) (by have := hn.out; omega)).mono ?_
  rintro e w3 ⟨v3, rfl, o3, u3⟩
  have b3 := b2.up u3
  have U3 := U2.trans u3
  have z3 := u3.size
  rw [le_blR] at o3
  clear c0 c1 c2 c3 c4 c5 c6 c7 c8 c9 c10 u3 b2 U2 o2'
  have l3 : Hid (((([1] : List UInt8) ++ bl 8 f) ++ bl 2 S.size ++ Sb S).length ≤ 1000000) := by
    show ((([1] : List UInt8) ++ bl 8 f) ++ bl 2 S.size ++ Sb S).length ≤ 1000000
    rw [List.length_append, List.length_append, bl_length, Sb_len]
    have := l2.out
    have := hn.out
    omega
  obtain ⟨c0, c1, c2, c3, c4, c5, c6, c7, c8, c9, c10⟩ := b3.c11
  go_wp2_with fail
  refine (putPolicy_2 w2.heap.size v3 _ g s l p _ o3 (by omega) l3 hg hs).mono ?_
  rintro e w4 ⟨v4, rfl, o4, u4⟩
  have U4 : Up w w4 := U3.trans' (by omega) u4
  clear c0 c1 c2 c3 c4 c5 c6 c7 c8 c9 c10 o3 U3
  go_wp2
  go_ret2
  exact ⟨_, rfl, ownR_low o4 (by omega), U4⟩

set_option maxHeartbeats 1600000 in
theorem Encode_del (f : Nat) (S : ByteArray) (pk : Int) (g s l p t i c : Nat) (w : World) (hn : Hid ((S.size : Int) ≤ 64)) (hf : Hid (f < 2 ^ 64))
    (hV : ∀ w, Calls Tryd.prog 13 #[RcV 2 f S pk g s l p t i c] w fun e w' => e = .returned (.bool true) ∧ Up w w') :
    Calls Tryd.prog 12 #[RcV 2 f S pk g s l p t i c] w fun e w' => ∃ v', e = .returned (.tuple #[v', .nilIface]) ∧ Own w' 5 w.heap.size v' (((([2] : List UInt8) ++ bl 8 f) ++ bl 2 S.size ++ Sb S)) ∧ Up w w' := by
  have b0 : Box (w.alloc (.cells #[.int .i64 2, V f, .string S, .int .i64 pk, V g, V s, V l, V p, V t, V i, V c] 32)) w.heap.size #[.int .i64 2, V f, .string S, .int .i64 pk, V g, V s, V l, V p, V t, V i, V c] := Box.new _ _ _
  go_enter Tryd.func12, Tryd.ntmps12
  go_wp2_with fail
  refine (hV _).mono ?_
  rintro e w1 ⟨rfl, u1⟩
  have b1 := b0.up u1
  have U1 : Up w w1 := (Up.alloc _ _).trans u1
  have z1 := b1.lt
  clear u1 b0 hV
  obtain ⟨c0, c1, c2, c3, c4, c5, c6, c7, c8, c9, c10⟩ := b1.c11
  go_wp2_with fail
  refine (PutU64_any _ [2] f _ (sl_one w1 2) (by simp) hf.out).mono ?_
  rintro e w2 ⟨v2, rfl, o2, u2⟩
  have u2' := (Up.alloc w1 (.cells #[B (2 : UInt8)] 5)).trans u2
  have b2 := b1.up u2'
  have U2 := U1.trans u2'
  have z2 := u2'.size
  rw [le_blR] at o2
  have o2' := ownR_low o2 (base' := w1.heap.size) (by simp)
  clear c0 c1 c2 c3 c4 c5 c6 c7 c8 c9 c10 u2 u2' b1 U1 o2
  have l2 : Hid ((([2] : List UInt8) ++ bl 8 f).length = 9) := by show (([2] : List UInt8) ++ bl 8 f).length = 9; rw [List.length_append, bl_length]; rfl
  obtain ⟨c0, c1, c2, c3, c4, c5, c6, c7, c8, c9, c10⟩ := b2.c11
  go_wp2_with fail
  refine (PutText_ok v2 _ S _ (own_sl0 o2') (by have := l2.out; omega) (by have := hn.out; omega)).mono ?_
  rintro e w3 ⟨v3, rfl, o3, u3⟩
  have b3 := b2.up u3
  have U3 := U2.trans u3
  have z3 := u3.size
  rw [le_blR] at o3
  clear c0 c1 c2 c3 c4 c5 c6 c7 c8 c9 c10 u3 b2 U2 o2'
  have l3 : Hid (((([2] : List UInt8) ++ bl 8 f) ++ bl 2 S.size ++ Sb S).length ≤ 1000000) := by
    show ((([2] : List UInt8) ++ bl 8 f) ++ bl 2 S.size ++ Sb S).length ≤ 1000000
    rw [List.length_append, List.length_append, bl_length, Sb_len]
    have := l2.out
    have := hn.out
    omega
  obtain ⟨c0, c1, c2, c3, c4, c5, c6, c7, c8, c9, c10⟩ := b3.c11
  go_wp2
  go_ret2
  exact ⟨_, rfl, ownR_low o3 (by omega), U3⟩

set_option maxHeartbeats 1600000 in
theorem Encode_ceil (f : Nat) (S : ByteArray) (pk : Int) (g s l p t i c : Nat) (w : World) (hn : Hid ((S.size : Int) ≤ 64)) (hf : Hid (f < 2 ^ 64)) (ht : Hid (t < 2 ^ 64)) (hi : Hid (i < 2 ^ 64)) (hc : Hid (c < 2 ^ 64))
    (hV : ∀ w, Calls Tryd.prog 13 #[RcV 3 f S pk g s l p t i c] w fun e w' => e = .returned (.bool true) ∧ Up w w') :
    Calls Tryd.prog 12 #[RcV 3 f S pk g s l p t i c] w fun e w' => ∃ v', e = .returned (.tuple #[v', .nilIface]) ∧ Own w' 5 w.heap.size v' (((([3] : List UInt8) ++ bl 8 f) ++ bl 2 S.size ++ Sb S) ++ (bl 8 t ++ (bl 8 i ++ bl 8 c))) ∧ Up w w' := by
  have b0 : Box (w.alloc (.cells #[.int .i64 3, V f, .string S, .int .i64 pk, V g, V s, V l, V p, V t, V i, V c] 32)) w.heap.size #[.int .i64 3, V f, .string S, .int .i64 pk, V g, V s, V l, V p, V t, V i, V c] := Box.new _ _ _
  go_enter Tryd.func12, Tryd.ntmps12
  go_wp2_with fail
  refine (hV _).mono ?_
  rintro e w1 ⟨rfl, u1⟩
  have b1 := b0.up u1
  have U1 : Up w w1 := (Up.alloc _ _).trans u1
  have z1 := b1.lt
  clear u1 b0 hV
  obtain ⟨c0, c1, c2, c3, c4, c5, c6, c7, c8, c9, c10⟩ := b1.c11
  go_wp2_with fail
  refine (PutU64_any _ [3] f _ (sl_one w1 3) (by simp) hf.out).mono ?_
  rintro e w2 ⟨v2, rfl, o2, u2⟩
  have u2' := (Up.alloc w1 (.cells #[B (3 : UInt8)] 5)).trans u2
  have b2 := b1.up u2'
  have U2 := U1.trans u2'
  have z2 := u2'.size
  rw [le_blR] at o2
  have o2' := ownR_low o2 (base' := w1.heap.size) (by simp)
  clear c0 c1 c2 c3 c4 c5 c6 c7 c8 c9 c10 u2 u2' b1 U1 o2
  have l2 : Hid ((([3] : List UInt8) ++ bl 8 f).length = 9) := by show (([3] : List UInt8) ++ bl 8 f).length = 9; rw [List.length_append, bl_length]; rfl
  obtain ⟨c0, c1, c2, c3, c4, c5, c6, c7, c8, c9, c10⟩ := b2.c11
  go_wp2_with fail
  refine (PutText_ok v2 _ S _ (own_sl0 o2') (by have := l2.out; omega) (by have := hn.out; omega)).mono ?_
  rintro e w3 ⟨v3, rfl, o3, u3⟩
  have b3 := b2.up u3
  have U3 := U2.trans u3
  have z3 := u3.size
  rw [le_blR] at o3
  clear c0 c1 c2 c3 c4 c5 c6 c7 c8 c9 c10 u3 b2 U2 o2'
  have l3 : Hid (((([3] : List UInt8) ++ bl 8 f) ++ bl 2 S.size ++ Sb S).length ≤ 1000000) := by
    show ((([3] : List UInt8) ++ bl 8 f) ++ bl 2 S.size ++ Sb S).length ≤ 1000000
    rw [List.length_append, List.length_append, bl_length, Sb_len]
    have := l2.out
    have := hn.out
    omega
  obtain ⟨c0, c1, c2, c3, c4, c5, c6, c7, c8, c9, c10⟩ := b3.c11
  go_wp2_with fail
  refine (putLevel_any w2.heap.size v3 _ t i c _ o3 (by omega) l3 ht hi hc).mono ?_
  rintro e w4 ⟨v4, rfl, o4, u4⟩
  have U4 : Up w w4 := U3.trans' (by omega) u4
  clear c0 c1 c2 c3 c4 c5 c6 c7 c8 c9 c10 o3 U3
  go_wp2
  go_ret2
  exact ⟨_, rfl, ownR_low o4 (by omega), U4⟩

theorem Sb_key (key : List UInt8) : Sb ⟨key.toArray⟩ = key := by simp [Sb]
theorem bl_one (k : Nat) : bl 1 k = [UInt8.ofNat k] := rfl
/-- What Encode answers: the error, the bytes. -/
def encErr (aA : Addr) (r : RecV) : Value := if validR r then .nilIface else E aA
def encB (r : RecV) : List UInt8 := if validR r then encR r else []
theorem Encode_ok (r : RecV) (w : World) (hf : Fit64 r) (hv : validR r) :
    Calls Tryd.prog 12 #[RV r] w fun e w' => ∃ v', e = .returned (.tuple #[v', .nilIface]) ∧ Own w' 5 w.heap.size v' (encR r) ∧ Up w w' := by
  have hV := RValid_any r
  rw [decide_eq_true hv] at hV
  have hn : ((⟨r.key.toArray⟩ : ByteArray).size : Int) ≤ 64 := by rw [key_size]; have := hv.2.1; omega
  rcases hv.2.2 with ⟨k1, hp, hl⟩ | ⟨k2, hp, hl⟩ | ⟨k3, hp, hl⟩
  · rcases hp with hp | hp
    · have e : encR r = ((([1] : List UInt8) ++ bl 8 r.floor) ++ bl 2 (⟨r.key.toArray⟩ : ByteArray).size ++ Sb ⟨r.key.toArray⟩) ++ (bl 1 1 ++ (bl 8 r.gap ++ bl 8 r.slack)) := by
        rw [key_size, Sb_key]
        simp only [encR, encH, encT, encP, k1, hp.1, if_true, List.append_assoc]
        rfl
      rw [e]
      have := Encode_flow r.floor ⟨r.key.toArray⟩ r.gap r.slack r.limit r.span r.tat r.idx r.cnt w hn hf.floor hf.gap hf.slack (by intro w; have := hV w; simp only [RV, k1, hp.1] at this; exact this)
      rw [show RV r = RcV 1 r.floor ⟨r.key.toArray⟩ 1 r.gap r.slack r.limit r.span r.tat r.idx r.cnt by simp only [RV, k1, hp.1]]
      exact this
    · have e : encR r = ((([1] : List UInt8) ++ bl 8 r.floor) ++ bl 2 (⟨r.key.toArray⟩ : ByteArray).size ++ Sb ⟨r.key.toArray⟩) ++ (bl 1 2 ++ (bl 8 r.limit ++ bl 8 r.span)) := by
        rw [key_size, Sb_key]
        simp only [encR, encH, encT, encP, k1, hp.1, if_true, List.append_assoc]
        rfl
      rw [e]
      have := Encode_grid r.floor ⟨r.key.toArray⟩ r.gap r.slack r.limit r.span r.tat r.idx r.cnt w hn hf.floor hf.limit hf.span (by intro w; have := hV w; simp only [RV, k1, hp.1] at this; exact this)
      rw [show RV r = RcV 1 r.floor ⟨r.key.toArray⟩ 2 r.gap r.slack r.limit r.span r.tat r.idx r.cnt by simp only [RV, k1, hp.1]]
      exact this
  · have e : encR r = (([2] : List UInt8) ++ bl 8 r.floor) ++ bl 2 (⟨r.key.toArray⟩ : ByteArray).size ++ Sb ⟨r.key.toArray⟩ := by
      rw [key_size, Sb_key]
      simp only [encR, encH, encT, k2, List.append_assoc]
      rw [if_neg (by decide), if_neg (by decide), List.append_nil]
      rfl
    rw [e]
    have := Encode_del r.floor ⟨r.key.toArray⟩ r.pk r.gap r.slack r.limit r.span r.tat r.idx r.cnt w hn hf.floor (by intro w; have := hV w; simp only [RV, k2] at this; exact this)
    rw [show RV r = RcV 2 r.floor ⟨r.key.toArray⟩ r.pk r.gap r.slack r.limit r.span r.tat r.idx r.cnt by simp only [RV, k2]]
    exact this
  · have e : encR r = ((([3] : List UInt8) ++ bl 8 r.floor) ++ bl 2 (⟨r.key.toArray⟩ : ByteArray).size ++ Sb ⟨r.key.toArray⟩) ++ (bl 8 r.tat ++ (bl 8 r.idx ++ bl 8 r.cnt)) := by
      rw [key_size, Sb_key]
      simp only [encR, encH, encT, encL, k3, List.append_assoc]
      rw [if_neg (by decide), if_pos trivial]
      rfl
    rw [e]
    have := Encode_ceil r.floor ⟨r.key.toArray⟩ r.pk r.gap r.slack r.limit r.span r.tat r.idx r.cnt w hn hf.floor hf.tat hf.idx hf.cnt (by intro w; have := hV w; simp only [RV, k3] at this; exact this)
    rw [show RV r = RcV 3 r.floor ⟨r.key.toArray⟩ r.pk r.gap r.slack r.limit r.span r.tat r.idx r.cnt by simp only [RV, k3]]
    exact this
theorem REncode_any (r : RecV) (w : World) (a : Addr) (hg : Gl w 0 a) (hf : Fit64 r) :
    Calls Tryd.prog 12 #[RV r] w fun e w' => ∃ v', e = .returned (.tuple #[v', encErr a r]) ∧ Own w' 5 w.heap.size v' (encB r) ∧ Up w w' := by
  by_cases hv : validR r
  · simp only [encErr, encB, if_pos hv]
    exact Encode_ok r w hf hv
  · simp only [encErr, encB, if_neg hv]
    have hV := RValid_any r
    rw [decide_eq_false hv] at hV
    refine (Encode_arg r.kind r.floor ⟨r.key.toArray⟩ r.pk r.gap r.slack r.limit r.span r.tat r.idx r.cnt w a hg hV).mono ?_
    rintro e w' ⟨rfl, hu⟩
    exact ⟨_, rfl, Own.nil _ _ _, hu⟩
end Go.Proofs.YtcllenlpoknakaaDoor
