/- Merged: RcEnc. -/
import Derived.Test.YtcllenlpoknakaaDoorMr14
import Derived.Test.YtcllenlpoknakaaDoorMr20
import Derived.OwnWalk
set_option linter.unusedVariables false
set_option linter.unusedSimpArgs false
namespace Go.Proofs.YtcllenlpoknakaaDoor
open Go Go.RowKit

theorem ownR_up {w w' : World} {base : Nat} {v : Value} {bs : List UInt8} (h : Own w 5 base v bs) (hu : Up w w') : Own w' 5 base v bs := by
  obtain ⟨hl, h⟩ := h
  refine ⟨hl, ?_⟩
  rcases h with h | ⟨g, cap, cs, hv, hb, hh, hc⟩
  · exact .inl h
  · exact .inr ⟨g, cap, cs, hv, hb, by rw [hu.block g (Array.getElem?_eq_some_iff.1 hh).1]; exact hh, hc⟩
theorem ownR_low {w : World} {base base' : Nat} {v : Value} {bs : List UInt8} (h : Own w 5 base v bs) (hb : base' ≤ base) : Own w 5 base' v bs := by
  obtain ⟨hl, h⟩ := h
  refine ⟨hl, ?_⟩
  rcases h with h | ⟨g, cap, cs, hv, hg, hh⟩
  · exact .inl h
  · exact .inr ⟨g, cap, cs, hv, Nat.le_trans hb hg, hh⟩
theorem own_sl0 {w : World} {base : Nat} {v : Value} {bs : List UInt8} (h : Own w 5 base v bs) : Sl 0 w v bs := (Own.sl h).mono (Nat.zero_le _)
theorem n64_256 {x : Nat} (h : x < 256 ^ 8) : x < 2 ^ 64 := h

set_option maxHeartbeats 800000 in
theorem putPolicy_1 (base : Nat) (v : Value) (bs : List UInt8) (g s l p : Nat) (w : World) (ho : Own w 5 base v bs) (hb : base ≤ w.heap.size) (hl : Hid (bs.length ≤ 1000000)) (hg : Hid (g < 2 ^ 64)) (hs : Hid (s < 2 ^ 64)) :
    Calls Tryd.prog 23 #[v, Pv 1 g s l p] w fun e w' => ∃ v', e = .returned v' ∧ Own w' 5 base v' (bs ++ (bl 1 1 ++ (bl 8 g ++ bl 8 s))) ∧ Below base w w' := by
  have b0 : Box (w.alloc (.cells #[.int .i64 1, V g, V s, V l, V p] 28)) w.heap.size #[.int .i64 1, V g, V s, V l, V p] := Box.new _ _ _
  go_enter Tryd.func23, Tryd.ntmps23
  go_wp2
  go_quiet (fail)
  obtain ⟨w1, hw1⟩ : ∃ w1, (w.alloc (.cells #[.int .i64 1, V g, V s, V l, V p] 28)).drewN nq = w1 := ⟨_, rfl⟩
  have u1 : Up w w1 := by rw [← hw1]; exact (Up.alloc _ _).trans (up_drewN _ _)
  have b1 : Box w1 w.heap.size #[.int .i64 1, V g, V s, V l, V p] := by rw [← hw1]; exact b0.up (up_drewN _ _)
  obtain ⟨c0, c1, c2, c3, c4⟩ := b1.c5
  rw [hw1]
  clear hw1 b0
  have o1 := ownR_up ho u1
  have z1 := u1.size
  clear ho
  go_wp2_with (at_builtin; refine wpList_push _ rfl (.tmp 18) (.tmp 22) rfl base _ _ rfl _ rfl o1 ?hb ?hl 1 ?hc ?_)
  case hb => omega
  case hl => have := hl.out; omega
  case hc => rfl
  intro v2 w2 o2 b2
  have z2 := b2.size
  have l2 : Hid ((bs ++ [1]).length ≤ 1000001) := by show (bs ++ [(1 : UInt8)]).length ≤ 1000001; rw [List.length_append]; have := hl.out; simp; omega
  clear c0 c1 c2 c3 c4 o1
  go_wp2_with fail
  refine (PutU64_any v2 _ g _ (own_sl0 o2) (by have := l2.out; omega) hg.out).mono ?_
  rintro e w3 ⟨v3, rfl, o3, u3⟩
  rw [le_blR] at o3
  have l3 : Hid (((bs ++ [1]) ++ bl 8 g).length ≤ 1000009) := by show ((bs ++ [(1 : UInt8)]) ++ bl 8 g).length ≤ 1000009; rw [List.length_append, bl_length]; have := l2.out; omega
  go_wp2_with fail
  refine (PutU64_any v3 _ s _ (own_sl0 o3) (by have := l3.out; omega) hs.out).mono ?_
  rintro e w4 ⟨v4, rfl, o4, u4⟩
  rw [le_blR, List.append_assoc, List.append_assoc] at o4
  have z3 := u3.size
  go_wp2
  go_ret
  exact ⟨_, rfl, ownR_low o4 (by omega), ((u1.mono hb).trans b2).trans ((u3.mono (by omega)).trans (u4.mono (by omega)))⟩

set_option maxHeartbeats 800000 in
theorem putPolicy_2 (base : Nat) (v : Value) (bs : List UInt8) (g s l p : Nat) (w : World) (ho : Own w 5 base v bs) (hb : base ≤ w.heap.size) (hl : Hid (bs.length ≤ 1000000)) (hg : Hid (l < 2 ^ 64)) (hs : Hid (p < 2 ^ 64)) :
    Calls Tryd.prog 23 #[v, Pv 2 g s l p] w fun e w' => ∃ v', e = .returned v' ∧ Own w' 5 base v' (bs ++ (bl 1 2 ++ (bl 8 l ++ bl 8 p))) ∧ Below base w w' := by
  have b0 : Box (w.alloc (.cells #[.int .i64 2, V g, V s, V l, V p] 28)) w.heap.size #[.int .i64 2, V g, V s, V l, V p] := Box.new _ _ _
  go_enter Tryd.func23, Tryd.ntmps23
  go_wp2
  go_quiet (fail)
  obtain ⟨w1, hw1⟩ : ∃ w1, (w.alloc (.cells #[.int .i64 2, V g, V s, V l, V p] 28)).drewN nq = w1 := ⟨_, rfl⟩
  have u1 : Up w w1 := by rw [← hw1]; exact (Up.alloc _ _).trans (up_drewN _ _)
  have b1 : Box w1 w.heap.size #[.int .i64 2, V g, V s, V l, V p] := by rw [← hw1]; exact b0.up (up_drewN _ _)
  obtain ⟨c0, c1, c2, c3, c4⟩ := b1.c5
  rw [hw1]
  clear hw1 b0
  go_wp2
  go_quiet (fail)
  obtain ⟨w9, hw9⟩ : ∃ w9, w1.drewN nq = w9 := ⟨_, rfl⟩
  have u9 : Up w w9 := by rw [← hw9]; exact u1.trans (up_drewN _ _)
  have b9 : Box w9 w.heap.size #[.int .i64 2, V g, V s, V l, V p] := by rw [← hw9]; exact b1.up (up_drewN _ _)
  rw [hw9]
  clear hw9 c0 c1 c2 c3 c4 u1 b1
  obtain ⟨c0, c1, c2, c3, c4⟩ := b9.c5
  have u1 := u9
  have o1 := ownR_up ho u1
  have z1 := u1.size
  clear ho
  go_wp2_with (at_builtin; refine wpList_push _ rfl (.tmp 18) (.tmp 22) rfl base _ _ rfl _ rfl o1 ?hb ?hl 2 ?hc ?_)
  case hb => omega
  case hl => have := hl.out; omega
  case hc => rfl
  intro v2 w2 o2 b2
  have z2 := b2.size
  have l2 : Hid ((bs ++ [2]).length ≤ 1000001) := by show (bs ++ [(2 : UInt8)]).length ≤ 1000001; rw [List.length_append]; have := hl.out; simp; omega
  clear c0 c1 c2 c3 c4 o1
  go_wp2_with fail
  refine (PutU64_any v2 _ l _ (own_sl0 o2) (by have := l2.out; omega) hg.out).mono ?_
  rintro e w3 ⟨v3, rfl, o3, u3⟩
  rw [le_blR] at o3
  have l3 : Hid (((bs ++ [2]) ++ bl 8 l).length ≤ 1000009) := by show ((bs ++ [(2 : UInt8)]) ++ bl 8 l).length ≤ 1000009; rw [List.length_append, bl_length]; have := l2.out; omega
  go_wp2_with fail
  refine (PutU64_any v3 _ p _ (own_sl0 o3) (by have := l3.out; omega) hs.out).mono ?_
  rintro e w4 ⟨v4, rfl, o4, u4⟩
  rw [le_blR, List.append_assoc, List.append_assoc] at o4
  have z3 := u3.size
  go_wp2
  go_ret
  exact ⟨_, rfl, ownR_low o4 (by omega), ((u1.mono hb).trans b2).trans ((u3.mono (by omega)).trans (u4.mono (by omega)))⟩

set_option maxHeartbeats 800000 in
theorem putLevel_any (base : Nat) (v : Value) (bs : List UInt8) (t i c : Nat) (w : World) (ho : Own w 5 base v bs) (hb : base ≤ w.heap.size) (hl : Hid (bs.length ≤ 1000000)) (ht : Hid (t < 2 ^ 64)) (hi : Hid (i < 2 ^ 64)) (hc : Hid (c < 2 ^ 64)) :
    Calls Tryd.prog 24 #[v, Lv t i c] w fun e w' => ∃ v', e = .returned v' ∧ Own w' 5 base v' (bs ++ (bl 8 t ++ (bl 8 i ++ bl 8 c))) ∧ Below base w w' := by
  go_enter Tryd.func24, Tryd.ntmps24
  have b0 : Box (w.alloc (.cells #[V t, V i, V c] 30)) w.heap.size #[V t, V i, V c] := Box.new _ _ _
  have u0 : Up w (w.alloc (.cells #[V t, V i, V c] 30)) := Up.alloc _ _
  have z0 := u0.size
  have o0 := ownR_up ho u0
  go_wp2_with fail
  refine (PutU64_any v _ t _ (own_sl0 o0) (by have := hl.out; omega) ht.out).mono ?_
  rintro e w1 ⟨v1, rfl, o1, u1⟩
  have b1 := b0.up u1
  obtain ⟨c0, c1, c2⟩ := b1.c3
  have z1 := u1.size
  rw [le_blR] at o1
  have l1 : Hid ((bs ++ bl 8 t).length ≤ 1000008) := by show (bs ++ bl 8 t).length ≤ 1000008; rw [List.length_append, bl_length]; have := hl.out; omega
  go_wp2_with fail
  refine (PutU64_any v1 _ i _ (own_sl0 o1) (by have := l1.out; omega) hi.out).mono ?_
  rintro e w2 ⟨v2, rfl, o2, u2⟩
  have b2 := b1.up u2
  clear c0 c1 c2
  obtain ⟨c0, c1, c2⟩ := b2.c3
  have z2 := u2.size
  rw [le_blR] at o2
  have l2 : Hid (((bs ++ bl 8 t) ++ bl 8 i).length ≤ 1000016) := by show ((bs ++ bl 8 t) ++ bl 8 i).length ≤ 1000016; rw [List.length_append, bl_length]; have := l1.out; omega
  go_wp2_with fail
  refine (PutU64_any v2 _ c _ (own_sl0 o2) (by have := l2.out; omega) hc.out).mono ?_
  rintro e w3 ⟨v3, rfl, o3, u3⟩
  rw [le_blR, List.append_assoc, List.append_assoc] at o3
  go_wp2
  go_ret
  exact ⟨_, rfl, ownR_low o3 (by omega), (u0.mono hb).trans ((u1.mono (by omega)).trans ((u2.mono (by omega)).trans (u3.mono (by omega))))⟩
end Go.Proofs.YtcllenlpoknakaaDoor
