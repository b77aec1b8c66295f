/- Merged: RcDec. -/
import Derived.Test.YtcllenlpoknakaaDoorMr22
set_option linter.unusedVariables false
set_option linter.unusedSimpArgs false
namespace Go.Proofs.YtcllenlpoknakaaDoor
open Go Go.RowKit

theorem But.set {r k : Nat} {w w4 : World} (h : But r w w4) (hk : w.heap.size ≤ k) (i : Nat) (v : Value) : But r w (w4.setCell ⟨k, i, none⟩ v) := by
  refine ⟨h.os, h.tape, h.output, Nat.le_trans h.size (by simp), fun g hg hne => ?_⟩
  rw [heap_setCell_other _ ⟨k, i, none⟩ _ _ (show g ≠ k by omega)]
  exact h.block g hg hne
theorem belowSet {B k : Nat} {w w4 : World} (hk : B ≤ k) (i : Nat) (v : Value) (h : Below B w w4) : Below B w (w4.setCell ⟨k, i, none⟩ v) := h.setCell hk v
theorem isKind_yes (k : Int) (h1 : 1 ≤ k) (h2 : k ≤ 3) (w : World) : Calls Tryd.prog 30 #[.int .i64 k] w fun e w' => e = .returned (.bool true) ∧ w' = w := by
  go_enter Tryd.func30, Tryd.ntmps30
  go_wp2
  go_ret
  exact ⟨rfl, rfl⟩
theorem isKind_no (k : Int) (h : k < 1 ∨ 3 < k) (w : World) : Calls Tryd.prog 30 #[.int .i64 k] w fun e w' => e = .returned (.bool false) ∧ w' = w := by
  rcases h with h | h
  · have h1 : ¬ 1 ≤ k := by omega
    go_enter Tryd.func30, Tryd.ntmps30
    go_wp2
    go_ret
    exact ⟨rfl, rfl⟩
  · have h1 : 1 ≤ k := by omega
    have h2 : ¬ k ≤ 3 := by omega
    go_enter Tryd.func30, Tryd.ntmps30
    go_wp2
    go_ret
    exact ⟨rfl, rfl⟩

/-- The policy's fields as the program lays them. -/
def tpV (k x y : Nat) : Value := if k = 2 then .agg #[.int .i64 (k : Int), Z, Z, V x, V y] else .agg #[.int .i64 (k : Int), V x, V y, Z, Z]

set_option maxHeartbeats 1600000 in
theorem takePolicy_2 {B : Nat} {w : World} {r : Nat} {aS aF : Addr} {st s1 s2 s3 : Option (List UInt8)} {x y z : Nat} (h : RdS B w r aS aF st) (e1 : rdA 1 st = (x, s1)) (e2 : rdA 8 s1 = (y, s2)) (e3 : rdA 8 s2 = (z, s3)) (hx : ((x : Int) == 2) = true) :
    Calls Tryd.prog 33 #[.pointer (some ⟨r, 0, none⟩)] w fun e w' => e = .returned (.agg #[.int .i64 (x : Int), Z, Z, V y, V z]) ∧ RdS B w' r aS aF s3 ∧ But r w w' := by
  have hb : (x : Int) ≤ 255 := by have := rdA_lt 1 st; rw [e1] at this; simp only at this; omega
  have k1 : ∀ u, RdS B u r aS aF st → Calls Tryd.prog 28 #[.pointer (some ⟨r, 0, none⟩)] u fun e w' => e = .returned (.int .u8 (x : Nat)) ∧ RdS B w' r aS aF s1 ∧ But r u w' := fun u hu => by
    have := U8_S hu; rw [e1] at this; exact this
  have k2 : ∀ u, RdS B u r aS aF s1 → Calls Tryd.prog 31 #[.pointer (some ⟨r, 0, none⟩)] u fun e w' => e = .returned (V y) ∧ RdS B w' r aS aF s2 ∧ But r u w' := fun u hu => by
    have := U64_S hu; rw [e2] at this; exact this
  have k3 : ∀ u, RdS B u r aS aF s2 → Calls Tryd.prog 31 #[.pointer (some ⟨r, 0, none⟩)] u fun e w' => e = .returned (V z) ∧ RdS B w' r aS aF s3 ∧ But r u w' := fun u hu => by
    have := U64_S hu; rw [e3] at this; exact this
  clear e1 e2 e3
  have hz := h.sz
  have hne : w.heap.size ≠ r := by have := h.lt; omega
  go_enter Tryd.func33, Tryd.ntmps33
  have b0 : Box (w.alloc (.cells #[.int .i64 0, Z, Z, Z, Z] 28)) w.heap.size #[.int .i64 0, Z, Z, Z, Z] := Box.new _ _ _
  have u0 : Up w (w.alloc (.cells #[.int .i64 0, Z, Z, Z, Z] 28)) := Up.alloc _ _
  have h0 := h.below (u0.mono hz)
  have g0 := But.of_up r u0
  clear u0
  go_wp2_with fail
  refine (k1 _ h0).mono ?_
  rintro e w1 ⟨rfl, h1, g1⟩
  have b1 := b0.but g1 hne
  replace g1 := g0.trans g1
  clear h0 g0 b0
  go_wp2_with fail
  refine (k2 _ h1).mono ?_
  rintro e w2 ⟨rfl, h2, g2⟩
  have b2 := b1.but g2 hne
  replace g2 := g1.trans g2
  clear h1 g1 b1
  go_wp2_with fail
  refine (k3 _ h2).mono ?_
  rintro e w3 ⟨rfl, h3, g3⟩
  have b3 := b2.but g3 hne
  replace g3 := g2.trans g3
  clear h2 g2 b2 k1 k2 k3
  obtain ⟨c0, c1, c2, c3, c4⟩ := b3.c5
  have cf := b3.frozen
  have cl := b3.lt
  go_wp2
  have b4 : Box _ _ #[.int .i64 (x : Int), Z, Z, V y, V z] := ((((b3.set 0 (.int .i64 (x : Int))).set 1 Z).set 2 Z).set 3 (V y)).set 4 (V z)
  have g4 := ((((g3.set (k := w.heap.size) (Nat.le_refl _) 0 (.int .i64 (x : Int))).set (k := w.heap.size) (Nat.le_refl _) 1 Z).set (k := w.heap.size) (Nat.le_refl _) 2 Z).set (k := w.heap.size) (Nat.le_refl _) 3 (V y)).set (k := w.heap.size) (Nat.le_refl _) 4 (V z)
  have h4 := h3.below (belowSet (k := w.heap.size) hz 4 (V z) (belowSet (k := w.heap.size) hz 3 (V y) (belowSet (k := w.heap.size) hz 2 Z (belowSet (k := w.heap.size) hz 1 Z (belowSet (k := w.heap.size) hz 0 (.int .i64 (x : Int)) (Below.refl B w3))))))
  clear c0 c1 c2 c3 c4 cf b3 g3 h3
  obtain ⟨c0, c1, c2, c3, c4⟩ := b4.c5
  generalize World.setCell _ _ _ = w5 at *
  exact bodyPost_ret (v := .agg #[.int .i64 (x : Int), Z, Z, V y, V z]) (by simp [results, Tryd.results33, go_sem, c0, c1, c2, c3, c4]) rfl ⟨rfl, h4, g4⟩

set_option maxHeartbeats 1600000 in
theorem takePolicy_1 {B : Nat} {w : World} {r : Nat} {aS aF : Addr} {st s1 s2 s3 : Option (List UInt8)} {x y z : Nat} (h : RdS B w r aS aF st) (e1 : rdA 1 st = (x, s1)) (e2 : rdA 8 s1 = (y, s2)) (e3 : rdA 8 s2 = (z, s3)) (hx : ((x : Int) == 2) = false) :
    Calls Tryd.prog 33 #[.pointer (some ⟨r, 0, none⟩)] w fun e w' => e = .returned (.agg #[.int .i64 (x : Int), V y, V z, Z, Z]) ∧ RdS B w' r aS aF s3 ∧ But r w w' := by
  have hb : (x : Int) ≤ 255 := by have := rdA_lt 1 st; rw [e1] at this; simp only at this; omega
  have k1 : ∀ u, RdS B u r aS aF st → Calls Tryd.prog 28 #[.pointer (some ⟨r, 0, none⟩)] u fun e w' => e = .returned (.int .u8 (x : Nat)) ∧ RdS B w' r aS aF s1 ∧ But r u w' := fun u hu => by
    have := U8_S hu; rw [e1] at this; exact this
  have k2 : ∀ u, RdS B u r aS aF s1 → Calls Tryd.prog 31 #[.pointer (some ⟨r, 0, none⟩)] u fun e w' => e = .returned (V y) ∧ RdS B w' r aS aF s2 ∧ But r u w' := fun u hu => by
    have := U64_S hu; rw [e2] at this; exact this
  have k3 : ∀ u, RdS B u r aS aF s2 → Calls Tryd.prog 31 #[.pointer (some ⟨r, 0, none⟩)] u fun e w' => e = .returned (V z) ∧ RdS B w' r aS aF s3 ∧ But r u w' := fun u hu => by
    have := U64_S hu; rw [e3] at this; exact this
  clear e1 e2 e3
  have hz := h.sz
  have hne : w.heap.size ≠ r := by have := h.lt; omega
  go_enter Tryd.func33, Tryd.ntmps33
  have b0 : Box (w.alloc (.cells #[.int .i64 0, Z, Z, Z, Z] 28)) w.heap.size #[.int .i64 0, Z, Z, Z, Z] := Box.new _ _ _
  have u0 : Up w (w.alloc (.cells #[.int .i64 0, Z, Z, Z, Z] 28)) := Up.alloc _ _
  have h0 := h.below (u0.mono hz)
  have g0 := But.of_up r u0
  clear u0
  go_wp2_with fail
  refine (k1 _ h0).mono ?_
  rintro e w1 ⟨rfl, h1, g1⟩
  have b1 := b0.but g1 hne
  replace g1 := g0.trans g1
  clear h0 g0 b0
  go_wp2_with fail
  refine (k2 _ h1).mono ?_
  rintro e w2 ⟨rfl, h2, g2⟩
  have b2 := b1.but g2 hne
  replace g2 := g1.trans g2
  clear h1 g1 b1
  go_wp2_with fail
  refine (k3 _ h2).mono ?_
  rintro e w3 ⟨rfl, h3, g3⟩
  have b3 := b2.but g3 hne
  replace g3 := g2.trans g3
  clear h2 g2 b2 k1 k2 k3
  obtain ⟨c0, c1, c2, c3, c4⟩ := b3.c5
  have cf := b3.frozen
  have cl := b3.lt
  go_wp2
  have b4 : Box _ _ #[.int .i64 (x : Int), V y, V z, Z, Z] := ((((b3.set 0 (.int .i64 (x : Int))).set 1 (V y)).set 2 (V z)).set 3 Z).set 4 Z
  have g4 := ((((g3.set (k := w.heap.size) (Nat.le_refl _) 0 (.int .i64 (x : Int))).set (k := w.heap.size) (Nat.le_refl _) 1 (V y)).set (k := w.heap.size) (Nat.le_refl _) 2 (V z)).set (k := w.heap.size) (Nat.le_refl _) 3 Z).set (k := w.heap.size) (Nat.le_refl _) 4 Z
  have h4 := h3.below (belowSet (k := w.heap.size) hz 4 Z (belowSet (k := w.heap.size) hz 3 Z (belowSet (k := w.heap.size) hz 2 (V z) (belowSet (k := w.heap.size) hz 1 (V y) (belowSet (k := w.heap.size) hz 0 (.int .i64 (x : Int)) (Below.refl B w3))))))
  clear c0 c1 c2 c3 c4 cf b3 g3 h3
  obtain ⟨c0, c1, c2, c3, c4⟩ := b4.c5
  generalize World.setCell _ _ _ = w5 at *
  exact bodyPost_ret (v := .agg #[.int .i64 (x : Int), V y, V z, Z, Z]) (by simp [results, Tryd.results33, go_sem, c0, c1, c2, c3, c4]) rfl ⟨rfl, h4, g4⟩

set_option maxHeartbeats 1600000 in
theorem takeLevel_S {B : Nat} {w : World} {r : Nat} {aS aF : Addr} {st s1 s2 s3 : Option (List UInt8)} {x y z : Nat} (h : RdS B w r aS aF st) (e1 : rdA 8 st = (x, s1)) (e2 : rdA 8 s1 = (y, s2)) (e3 : rdA 8 s2 = (z, s3)) :
    Calls Tryd.prog 34 #[.pointer (some ⟨r, 0, none⟩)] w fun e w' => e = .returned (Lv x y z) ∧ RdS B w' r aS aF s3 ∧ But r w w' := by
  have k1 : ∀ u, RdS B u r aS aF st → Calls Tryd.prog 31 #[.pointer (some ⟨r, 0, none⟩)] u fun e w' => e = .returned (V x) ∧ RdS B w' r aS aF s1 ∧ But r u w' := fun u hu => by
    have := U64_S hu; rw [e1] at this; exact this
  have k2 : ∀ u, RdS B u r aS aF s1 → Calls Tryd.prog 31 #[.pointer (some ⟨r, 0, none⟩)] u fun e w' => e = .returned (V y) ∧ RdS B w' r aS aF s2 ∧ But r u w' := fun u hu => by
    have := U64_S hu; rw [e2] at this; exact this
  have k3 : ∀ u, RdS B u r aS aF s2 → Calls Tryd.prog 31 #[.pointer (some ⟨r, 0, none⟩)] u fun e w' => e = .returned (V z) ∧ RdS B w' r aS aF s3 ∧ But r u w' := fun u hu => by
    have := U64_S hu; rw [e3] at this; exact this
  clear e1 e2 e3
  have hz := h.sz
  have hne : w.heap.size ≠ r := by have := h.lt; omega
  go_enter Tryd.func34, Tryd.ntmps34
  have b0 : Box (w.alloc (.cells #[Z, Z, Z] 30)) w.heap.size #[Z, Z, Z] := Box.new _ _ _
  have u0 : Up w (w.alloc (.cells #[Z, Z, Z] 30)) := Up.alloc _ _
  have h0 := h.below (u0.mono hz)
  have g0 := But.of_up r u0
  clear u0
  go_wp2_with fail
  refine (k1 _ h0).mono ?_
  rintro e w1 ⟨rfl, h1, g1⟩
  have b1 := b0.but g1 hne
  replace g1 := g0.trans g1
  clear h0 g0 b0
  go_wp2_with fail
  refine (k2 _ h1).mono ?_
  rintro e w2 ⟨rfl, h2, g2⟩
  have b2 := b1.but g2 hne
  replace g2 := g1.trans g2
  clear h1 g1 b1
  go_wp2_with fail
  refine (k3 _ h2).mono ?_
  rintro e w3 ⟨rfl, h3, g3⟩
  have b3 := b2.but g3 hne
  replace g3 := g2.trans g3
  clear h2 g2 b2 k1 k2 k3
  obtain ⟨c0, c1, c2⟩ := b3.c3
  have cf := b3.frozen
  have cl := b3.lt
  go_wp2
  have b4 : Box _ _ #[V x, V y, V z] := ((b3.set 0 (V x)).set 1 (V y)).set 2 (V z)
  have g4 := ((g3.set (k := w.heap.size) (Nat.le_refl _) 0 (V x)).set (k := w.heap.size) (Nat.le_refl _) 1 (V y)).set (k := w.heap.size) (Nat.le_refl _) 2 (V z)
  have h4 := h3.below (belowSet (k := w.heap.size) hz 2 (V z) (belowSet (k := w.heap.size) hz 1 (V y) (belowSet (k := w.heap.size) hz 0 (V x) (Below.refl B w3))))
  clear c0 c1 c2 cf b3 g3 h3
  obtain ⟨c0, c1, c2⟩ := b4.c3
  generalize World.setCell _ _ _ = w5 at *
  exact bodyPost_ret (v := Lv x y z) (by simp [results, Tryd.results34, go_sem, c0, c1, c2]) rfl ⟨rfl, h4, g4⟩
end Go.Proofs.YtcllenlpoknakaaDoor
