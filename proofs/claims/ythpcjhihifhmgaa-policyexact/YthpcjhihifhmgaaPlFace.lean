/- policy: the face's calls, over whatever rule the policy goes by. -/
import Derived.Test.YthpcjhihifhmgaaPlFn2
import Derived.Test.YthpcjhihifhmgaaPlRule
set_option linter.unusedVariables false
namespace Go.Proofs.Ythpcjhihifhmgaa
open Go Go.RowKit

set_option maxHeartbeats 1600000 in
theorem Valid_kind (k : Int) (g s l p f0 f1 f2 f3 f4 f5 : Nat) (R : Value) (o : Bool) (hR : R = (if o then .agg #[fnV f0, fnV f1, fnV f2, fnV f3, fnV f4, fnV f5] else Rule0))
    (kr : ∀ w, Calls Try.prog 30 #[Pv k g s l p] w fun e w' => e = .returned (.tuple #[R, .bool o]) ∧ Up w w') (w : World) :
    Calls Try.prog 12 #[Pv k g s l p] w fun e w' => e = .returned (.bool o) ∧ Up w w' := by
  cases o
  · obtain rfl : R = Rule0 := hR
    go_enter Try.func12, Try.ntmps12
    go_wp2_with fail
    refine (kr _).mono ?_
    rintro e w1 ⟨rfl, u1⟩
    go_wp2
    go_ret
    exact ⟨rfl, (Up.alloc _ _).trans (u1.trans (Up.alloc _ _))⟩
  · obtain rfl : R = .agg #[fnV f0, fnV f1, fnV f2, fnV f3, fnV f4, fnV f5] := hR
    go_enter Try.func12, Try.ntmps12
    go_wp2_with fail
    refine (kr _).mono ?_
    rintro e w1 ⟨rfl, u1⟩
    go_wp2
    go_ret
    exact ⟨rfl, (Up.alloc _ _).trans (u1.trans (Up.alloc _ _))⟩

set_option maxHeartbeats 1600000 in
theorem Left_kind (k : Int) (g s l p f0 f1 f2 f3 f4 f5 t i c now R : Nat)
    (kr : ∀ w, Calls Try.prog 30 #[Pv k g s l p] w fun e w' => e = .returned (.tuple #[.agg #[fnV f0, fnV f1, fnV f2, fnV f3, fnV f4, fnV f5], .bool true]) ∧ Up w w')
    (hcf : ∀ (a : Array Value) (w : World), (callFunc f4 a).run Try.prog w = .ok (.enter f4 a) w)
    (k4 : ∀ w, Calls Try.prog f4 #[Pv k g s l p, Lv t i c, V now] w fun e w' => e = .returned (V R) ∧ Up w w') (w : World) :
    Calls Try.prog 11 #[Pv k g s l p, Lv t i c, V now] w fun e w' => e = .returned (V R) ∧ Up w w' := by
  go_enter Try.func11, Try.ntmps11
  go_wp2_with fail
  refine (kr _).mono ?_
  rintro e w1 ⟨rfl, u1⟩
  have b0 : Box w1 w.heap.size #[.int .i64 k, V g, V s, V l, V p] := ((Box.new _ _ _).alloc _).up u1
  have b1 : Box w1 (w.heap.size + 1) #[V t, V i, V c] := (Box.newAt (by simp)).up u1
  have v1 := (up2 _ _ _).trans u1
  clear u1
  obtain ⟨c0, c1, c2, c3, c4⟩ := b0.c5
  obtain ⟨d0, d1, d2⟩ := b1.c3
  have z0 := b0.lt
  have z1 := b1.lt
  go_wp2_with fail
  refine (k4 _).mono ?_
  rintro e w2 ⟨rfl, u2⟩
  go_wp2
  go_ret
  exact ⟨rfl, v1.trans ((Up.alloc _ _).trans u2)⟩
theorem Left_none (k : Int) (g s l p t i c now : Nat)
    (kr : ∀ w, Calls Try.prog 30 #[Pv k g s l p] w fun e w' => e = .returned (.tuple #[Rule0, .bool false]) ∧ Up w w') (w : World) :
    Calls Try.prog 11 #[Pv k g s l p, Lv t i c, V now] w fun e w' => e = .returned Z ∧ Up w w' := by
  go_enter Try.func11, Try.ntmps11
  go_wp2_with fail
  refine (kr _).mono ?_
  rintro e w1 ⟨rfl, u1⟩
  go_wp2
  go_ret
  exact ⟨rfl, (up2 _ _ _).trans (u1.trans (Up.alloc _ _))⟩

set_option maxHeartbeats 1600000 in
theorem Max_kind (k : Int) (g s l p f0 f1 f2 f3 f4 f5 t i c t' i' c' x y z x' y' z' : Nat) (o : Bool)
    (kr : ∀ w, Calls Try.prog 30 #[Pv k g s l p] w fun e w' => e = .returned (.tuple #[.agg #[fnV f0, fnV f1, fnV f2, fnV f3, fnV f4, fnV f5], .bool true]) ∧ Up w w')
    (hcf1 : ∀ (a : Array Value) (w : World), (callFunc f1 a).run Try.prog w = .ok (.enter f1 a) w) (hcf5 : ∀ (a : Array Value) (w : World), (callFunc f5 a).run Try.prog w = .ok (.enter f5 a) w)
    (k5 : ∀ w, Calls Try.prog f5 #[Lv t i c, Lv t' i' c'] w fun e w' => e = .returned (.bool o) ∧ Up w w')
    (ka : ∀ w, Calls Try.prog f1 #[Lv t i c] w fun e w' => e = .returned (Lv x y z) ∧ Up w w') (kb : ∀ w, Calls Try.prog f1 #[Lv t' i' c'] w fun e w' => e = .returned (Lv x' y' z') ∧ Up w w') (w : World) :
    Calls Try.prog 20 #[Pv k g s l p, Lv t i c, Lv t' i' c'] w fun e w' => e = .returned (if o then Lv x y z else Lv x' y' z') ∧ Up w w' := by
  go_enter Try.func20, Try.ntmps20
  go_wp2_with fail
  refine (kr _).mono ?_
  rintro e w1 ⟨rfl, u1⟩
  have b0 : Box w1 w.heap.size #[.int .i64 k, V g, V s, V l, V p] := ((((Box.new _ _ _).alloc _).alloc _).alloc _).up u1
  have b1 : Box w1 (w.heap.size + 1) #[V t, V i, V c] := (((Box.newAt (by simp)).alloc _).alloc _).up u1
  have b2 : Box w1 (w.heap.size + 1 + 1) #[V t', V i', V c'] := ((Box.newAt (by simp)).alloc _).up u1
  have b3 : Box w1 (w.heap.size + 1 + 1 + 1) #[Z, Z, Z] := (Box.newAt (by simp)).up u1
  have v1 := ((up3 w _ _ _).trans (Up.alloc _ _)).trans u1
  clear u1
  generalize hB : w.heap.size = B at *
  have hB' : w.heap.size ≤ B := by omega
  obtain ⟨d0, d1, d2⟩ := b1.c3
  obtain ⟨d3, d4, d5⟩ := b2.c3
  have z0 := b0.lt
  have z1 := b1.lt
  have z2 := b2.lt
  have z3 := b3.lt
  go_wp2_with fail
  refine (k5 _).mono ?_
  rintro e w2 ⟨rfl, u2⟩
  have bR : Box w2 w1.heap.size #[fnV f0, fnV f1, fnV f2, fnV f3, fnV f4, fnV f5] := (Box.new _ _ _).up u2
  have v2 := (Up.alloc _ _).trans u2
  generalize hR : w1.heap.size = G at *
  replace b1 := b1.up v2
  replace b2 := b2.up v2
  replace b3 := b3.up v2
  replace v1 := v1.trans v2
  clear u2 v2 d0 d1 d2 d3 d4 d5 b0 kr k5
  obtain ⟨d0, d1, d2⟩ := b1.c3
  obtain ⟨d3, d4, d5⟩ := b2.c3
  obtain ⟨q0, q1, q2, q3, q4, q5⟩ := bR.c6
  cases o
  · go_wp2_with fail
    refine (kb _).mono ?_
    rintro e w3 ⟨rfl, u3⟩
    replace b3 := b3.up u3
    replace v1 := v1.trans u3
    clear d0 d1 d2 d3 d4 d5 q0 q1 q2 q3 q4 q5 b1 b2 bR u3
    obtain ⟨d0, d1, d2⟩ := b3.c3
    have df := b3.frozen
    have dz := b3.lt
    go_wp2
    have b4 := b3.set3 (x := V x') (y := V y') (z := V z')
    have v4 := Up.set3 v1 (k := B + 1 + 1 + 1) (by omega) (V x') (V y') (V z')
    clear d0 d1 d2 df
    obtain ⟨d0, d1, d2⟩ := b4.c3
    generalize World.setCell _ _ _ = w4 at *
    exact bodyPost_ret (v := Lv x' y' z') (by simp [results, Try.results20, go_sem, d0, d1, d2]) rfl ⟨rfl, v4⟩
  · go_wp2_with fail
    refine (ka _).mono ?_
    rintro e w3 ⟨rfl, u3⟩
    replace b3 := b3.up u3
    replace v1 := v1.trans u3
    clear d0 d1 d2 d3 d4 d5 q0 q1 q2 q3 q4 q5 b1 b2 bR u3
    obtain ⟨d0, d1, d2⟩ := b3.c3
    have df := b3.frozen
    have dz := b3.lt
    go_wp2
    have b4 := b3.set3 (x := V x) (y := V y) (z := V z)
    have v4 := Up.set3 v1 (k := B + 1 + 1 + 1) (by omega) (V x) (V y) (V z)
    clear d0 d1 d2 df
    obtain ⟨d0, d1, d2⟩ := b4.c3
    generalize World.setCell _ _ _ = w4 at *
    exact bodyPost_ret (v := Lv x y z) (by simp [results, Try.results20, go_sem, d0, d1, d2]) rfl ⟨rfl, v4⟩
theorem Max_none (k : Int) (g s l p t i c t' i' c' : Nat)
    (kr : ∀ w, Calls Try.prog 30 #[Pv k g s l p] w fun e w' => e = .returned (.tuple #[Rule0, .bool false]) ∧ Up w w') (w : World) :
    Calls Try.prog 20 #[Pv k g s l p, Lv t i c, Lv t' i' c'] w fun e w' => e = .returned (.agg #[Z, Z, Z]) ∧ Up w w' := by
  go_enter Try.func20, Try.ntmps20
  go_wp2_with fail
  refine (kr _).mono ?_
  rintro e w1 ⟨rfl, u1⟩
  have b3 : Box w1 (w.heap.size + 1 + 1 + 1) #[Z, Z, Z] := (Box.newAt (by simp)).up u1
  have v1 := ((up3 w _ _ _).trans (Up.alloc _ _)).trans u1
  clear u1
  obtain ⟨d0, d1, d2⟩ := b3.c3
  have df := b3.frozen
  have dz := b3.lt
  go_wp2
  have b4 := (b3.set3 (x := Z) (y := Z) (z := Z)).alloc (Obj.cells #[.nilFunc, .nilFunc, .nilFunc, .nilFunc, .nilFunc, .nilFunc] 56)
  have v4 := (Up.set3 v1 (k := w.heap.size + 1 + 1 + 1) (by omega) Z Z Z).trans (Up.alloc _ (Obj.cells #[.nilFunc, .nilFunc, .nilFunc, .nilFunc, .nilFunc, .nilFunc] 56))
  clear d0 d1 d2 df
  obtain ⟨d0, d1, d2⟩ := b4.c3
  generalize World.alloc _ _ = w4 at *
  exact bodyPost_ret (v := .agg #[Z, Z, Z]) (by simp [results, Try.results20, go_sem, d0, d1, d2]) rfl ⟨rfl, v4⟩

set_option maxHeartbeats 1600000 in
theorem Covers_kind (k : Int) (g s l p f0 f1 f2 f3 f4 f5 t i c t' i' c' : Nat) (o : Bool)
    (kr : ∀ w, Calls Try.prog 30 #[Pv k g s l p] w fun e w' => e = .returned (.tuple #[.agg #[fnV f0, fnV f1, fnV f2, fnV f3, fnV f4, fnV f5], .bool true]) ∧ Up w w')
    (hcf5 : ∀ (a : Array Value) (w : World), (callFunc f5 a).run Try.prog w = .ok (.enter f5 a) w)
    (k5 : ∀ w, Calls Try.prog f5 #[Lv t i c, Lv t' i' c'] w fun e w' => e = .returned (.bool o) ∧ Up w w') (w : World) :
    Calls Try.prog 21 #[Pv k g s l p, Lv t i c, Lv t' i' c'] w fun e w' => e = .returned (.bool o) ∧ Up w w' := by
  go_enter Try.func21, Try.ntmps21
  go_wp2_with fail
  refine (kr _).mono ?_
  rintro e w1 ⟨rfl, u1⟩
  have b1 : Box w1 (w.heap.size + 1) #[V t, V i, V c] := ((Box.newAt (by simp)).alloc _).up u1
  have b2 : Box w1 (w.heap.size + 1 + 1) #[V t', V i', V c'] := (Box.newAt (by simp)).up u1
  have v1 := (up3 w _ _ _).trans u1
  clear u1
  obtain ⟨d0, d1, d2⟩ := b1.c3
  obtain ⟨d3, d4, d5⟩ := b2.c3
  have z1 := b1.lt
  have z2 := b2.lt
  go_wp2_with fail
  refine (k5 _).mono ?_
  rintro e w2 ⟨rfl, u2⟩
  go_wp2
  go_ret
  exact ⟨rfl, v1.trans ((Up.alloc _ _).trans u2)⟩
theorem Covers_none (k : Int) (g s l p t i c t' i' c' : Nat)
    (kr : ∀ w, Calls Try.prog 30 #[Pv k g s l p] w fun e w' => e = .returned (.tuple #[Rule0, .bool false]) ∧ Up w w') (w : World) :
    Calls Try.prog 21 #[Pv k g s l p, Lv t i c, Lv t' i' c'] w fun e w' => e = .returned (.bool false) ∧ Up w w' := by
  go_enter Try.func21, Try.ntmps21
  go_wp2_with fail
  refine (kr _).mono ?_
  rintro e w1 ⟨rfl, u1⟩
  go_wp2
  go_ret
  exact ⟨rfl, (up3 _ _ _ _).trans (u1.trans (Up.alloc _ _))⟩
end Go.Proofs.Ythpcjhihifhmgaa
