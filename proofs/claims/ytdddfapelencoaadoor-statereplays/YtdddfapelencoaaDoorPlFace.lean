/- policy: the face's calls, over whatever rule the policy goes by. -/
import Derived.Test.YtdddfapelencoaaDoorPlFn2
import Derived.Test.YtdddfapelencoaaDoorLkD
set_option linter.unusedVariables false
namespace Go.Proofs.YtdddfapelencoaaDoor
open Go Go.RowKit



set_option maxHeartbeats 1600000 in
theorem Covers_kind (k : Int) (g s l p f0 f1 f2 f3 f4 f5 t i c t' i' c' : Nat) (o : Bool)
    (kr : ∀ w, Calls Tryd.prog 36 #[Pv k g s l p] w fun e w' => e = .returned (.tuple #[.agg #[fnV f0, fnV f1, fnV f2, fnV f3, fnV f4, fnV f5], .bool true]) ∧ Up w w')
    (hcf5 : ∀ (a : Array Value) (w : World), (callFunc f5 a).run Tryd.prog w = .ok (.enter f5 a) w)
    (k5 : ∀ w, Calls Tryd.prog f5 #[Lv t i c, Lv t' i' c'] w fun e w' => e = .returned (.bool o) ∧ Up w w') (w : World) :
    Calls Tryd.prog 75 #[Pv k g s l p, Lv t i c, Lv t' i' c'] w fun e w' => e = .returned (.bool o) ∧ Up w w' := by
  go_enter Tryd.func75, Tryd.ntmps75
  go_wp2_with fail
  refine (kr _).mono ?_
  rintro e w1 ⟨rfl, u1⟩
  have b1 : Box w1 (w.heap.size + 1) #[V t, V i, V c] := ((Box.newAt (by simp)).alloc _).up u1
  have b2 : Box w1 (w.heap.size + 1 + 1) #[V t', V i', V c'] := (Box.newAt (by simp)).up u1
  have v1 := (up3 w _ _ _).trans u1
  clear u1
  obtain ⟨d0, d1, d2⟩ := b1.c3
  obtain ⟨d3, d4, d5⟩ := b2.c3
  have z1 := b1.lt
  have z2 := b2.lt
  go_wp2_with fail
  refine (k5 _).mono ?_
  rintro e w2 ⟨rfl, u2⟩
  go_wp2
  go_ret
  exact ⟨rfl, v1.trans ((Up.alloc _ _).trans u2)⟩
theorem Covers_none (k : Int) (g s l p t i c t' i' c' : Nat)
    (kr : ∀ w, Calls Tryd.prog 36 #[Pv k g s l p] w fun e w' => e = .returned (.tuple #[Rule0, .bool false]) ∧ Up w w') (w : World) :
    Calls Tryd.prog 75 #[Pv k g s l p, Lv t i c, Lv t' i' c'] w fun e w' => e = .returned (.bool false) ∧ Up w w' := by
  go_enter Tryd.func75, Tryd.ntmps75
  go_wp2_with fail
  refine (kr _).mono ?_
  rintro e w1 ⟨rfl, u1⟩
  go_wp2
  go_ret
  exact ⟨rfl, (up3 _ _ _ _).trans (u1.trans (Up.alloc _ _))⟩
end Go.Proofs.YtdddfapelencoaaDoor
