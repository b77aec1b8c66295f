/- policy: the face's Fits, over whatever rule the policy goes by. -/
import Derived.Test.YtdddfapelencoaaDoorPlFn2
import Derived.Test.YtdddfapelencoaaDoorLkD
set_option linter.unusedVariables false
namespace Go.Proofs.YtdddfapelencoaaDoor
open Go Go.RowKit

theorem Fits_none (k : Int) (g s l p t i c : Nat)
    (kr : ∀ w, Calls Tryd.prog 36 #[Pv k g s l p] w fun e w' => e = .returned (.tuple #[Rule0, .bool false]) ∧ Up w w') (w : World) :
    Calls Tryd.prog 25 #[Pv k g s l p, Lv t i c] w fun e w' => e = .returned (.bool false) ∧ Up w w' := by
  go_enter Tryd.func25, Tryd.ntmps25
  go_wp2_with fail
  refine (kr _).mono ?_
  rintro e w1 ⟨rfl, u1⟩
  go_wp2_with fail
  go_quiet (fail)
  go_wp2
  go_ret
  exact ⟨rfl, (up2 _ _ _).trans (u1.trans ((Up.alloc _ _).trans (up_drewN _ _)))⟩

set_option maxRecDepth 20000 in
set_option maxHeartbeats 1600000 in
theorem Fits_kind (k : Int) (g s l p f0 f1 f2 f3 f4 f5 t i c x y z : Nat)
    (kr : ∀ w, Calls Tryd.prog 36 #[Pv k g s l p] w fun e w' => e = .returned (.tuple #[.agg #[fnV f0, fnV f1, fnV f2, fnV f3, fnV f4, fnV f5], .bool true]) ∧ Up w w')
    (hcf1 : ∀ (a : Array Value) (w : World), (callFunc f1 a).run Tryd.prog w = .ok (.enter f1 a) w)
    (ka : ∀ w, Calls Tryd.prog f1 #[Lv t i c] w fun e w' => e = .returned (Lv x y z) ∧ Up w w') (w : World) :
    Calls Tryd.prog 25 #[Pv k g s l p, Lv t i c] w fun e w' => e = .returned (.bool (decide (t = x ∧ i = y ∧ c = z))) ∧ Up w w' := by
  obtain ⟨o, ho⟩ : ∃ o, decide (t = x ∧ i = y ∧ c = z) = o := ⟨_, rfl⟩
  rw [ho]
  have hq := fun w => level_eq t i c x y z w
  rw [ho] at hq
  clear ho
  go_enter Tryd.func25, Tryd.ntmps25
  go_wp2_with fail
  refine (kr _).mono ?_
  rintro e w1 ⟨rfl, u1⟩
  have b1 : Box w1 (w.heap.size + 1) #[V t, V i, V c] := (Box.newAt (by simp)).up u1
  have v1 := (up2 w _ _).trans u1
  clear u1
  obtain ⟨d0, d1, d2⟩ := b1.c3
  have z1 := b1.lt
  generalize hB : w.heap.size = B at *
  go_wp2_with fail
  have bR : Box (w1.alloc (Obj.cells #[fnV f0, fnV f1, fnV f2, fnV f3, fnV f4, fnV f5] 78)) w1.heap.size #[fnV f0, fnV f1, fnV f2, fnV f3, fnV f4, fnV f5] := Box.new _ _ _
  have bl : Box (w1.alloc (Obj.cells #[fnV f0, fnV f1, fnV f2, fnV f3, fnV f4, fnV f5] 78)) (B + 1) #[V t, V i, V c] := b1.alloc _
  have v2 := v1.trans (Up.alloc w1 (Obj.cells #[fnV f0, fnV f1, fnV f2, fnV f3, fnV f4, fnV f5] 78))
  generalize (w1.alloc (Obj.cells #[fnV f0, fnV f1, fnV f2, fnV f3, fnV f4, fnV f5] 78)) = w2 at *
  generalize w1.heap.size = G at *
  clear d0 d1 d2 b1 v1 z1
  have sof : ∀ {w' : World}, Up w2 w' → w'.cell? ⟨B + 1, 0, none⟩ = some (V t) ∧ w'.cell? ⟨B + 1, 1, none⟩ = some (V i) ∧ w'.cell? ⟨B + 1, 2, none⟩ = some (V c) ∧ w'.cell? ⟨G, 1, none⟩ = some (fnV f1) ∧ Up w2 w' := fun u => ⟨(bl.up u).c3.1, (bl.up u).c3.2.1, (bl.up u).c3.2.2, (bR.up u).c6.2.1, u⟩
  have hs := sof (Up.drew w2)
  go_region_held3 (fun w' => w'.cell? ⟨B + 1, 0, none⟩ = some (V t) ∧ w'.cell? ⟨B + 1, 1, none⟩ = some (V i) ∧ w'.cell? ⟨B + 1, 2, none⟩ = some (V c) ∧ w'.cell? ⟨G, 1, none⟩ = some (fnV f1) ∧ Up w2 w') (with_reducible exact hs)
    (first
    | (refine (ka _).mono ?_; rintro e w4 ⟨rfl, u4⟩; replace hs := sof (Up.trans hs.2.2.2.2 u4)))
  go_wp2
  go_ret
  exact ⟨rfl, v2.trans hs.2.2.2.2⟩
end Go.Proofs.YtdddfapelencoaaDoor
