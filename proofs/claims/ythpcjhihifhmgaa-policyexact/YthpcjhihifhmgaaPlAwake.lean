/- policy: the laws' own functions flow, grid and awake. -/
import Derived.Test.YthpcjhihifhmgaaPlAny
set_option linter.unusedVariables false
namespace Go.Proofs.Ythpcjhihifhmgaa
open Go Go.RowKit

abbrev I (n : Int) : Value := .int .u64 n
abbrev FlowV : Value := .agg #[.int .i64 1, I 10, I 20, I 0, I 0]
abbrev GridV : Value := .agg #[.int .i64 2, I 0, I 0, I 3, I 100]
theorem flow_any (w : World) : Calls Try.prog 22 #[] w fun e w' => e = .returned FlowV ∧ Up w w' := by
  go_enter Try.func22, Try.ntmps22
  go_wp2
  exact bodyPost_ret (v := FlowV) (by simp [results, Try.results22, go_sem]) rfl ⟨rfl, Up.alloc _ _⟩
theorem grid_any (w : World) : Calls Try.prog 23 #[] w fun e w' => e = .returned GridV ∧ Up w w' := by
  go_enter Try.func23, Try.ntmps23
  go_wp2
  exact bodyPost_ret (v := GridV) (by simp [results, Try.results23, go_sem]) rfl ⟨rfl, Up.alloc _ _⟩

theorem pf_ok : Pol.Ok ⟨1, 10, 20, 0, 0⟩ := ⟨by decide, by decide, by decide, by decide⟩
theorem pg_ok : Pol.Ok ⟨2, 0, 0, 3, 100⟩ := ⟨by decide, by decide, by decide, by decide⟩
theorem lv_ok (t i c : Nat) (h1 : N64 t) (h2 : N64 i) (h3 : N64 c) : Lev.Ok ⟨t, i, c⟩ := ⟨h1, h2, h3⟩
theorem live1 (w : World) : Calls Try.prog 10 #[FlowV, .agg #[I 0, I 0, I 0], I 5, I 3] w fun e w' => e = .returned (.tuple #[.agg #[I 35, I 0, I 0], .bool true, I 0]) ∧ Up w w' := by
  have k := admit_call ⟨1, 10, 20, 0, 0⟩ ⟨0, 0, 0⟩ 5 3 pf_ok (lv_ok _ _ _ (by decide) (by decide) (by decide)) (by decide) (by decide) w
  have hF : Pol.F ⟨1, 10, 20, 0, 0⟩ := by decide
  have hf : GFits 10 20 0 5 3 := by decide
  have e1 : pNew ⟨1, 10, 20, 0, 0⟩ ⟨0, 0, 0⟩ 5 3 = ⟨35, 0, 0⟩ := by rw [show pNew ⟨1, 10, 20, 0, 0⟩ ⟨0, 0, 0⟩ 5 3 = _ from if_pos hF, gTat, if_pos hf]; rfl
  have e2 : pOk ⟨1, 10, 20, 0, 0⟩ ⟨0, 0, 0⟩ 5 3 = true := by rw [show pOk ⟨1, 10, 20, 0, 0⟩ ⟨0, 0, 0⟩ 5 3 = _ from if_pos hF]; exact decide_eq_true hf
  have e3 : pRetry ⟨1, 10, 20, 0, 0⟩ ⟨0, 0, 0⟩ 5 3 = 0 := if_pos e2
  rw [e1, e2, e3] at k
  exact k
theorem live2 (w : World) : Calls Try.prog 10 #[GridV, .agg #[I 0, I 2, I 2], I 250, I 2] w fun e w' => e = .returned (.tuple #[.agg #[I 0, I 2, I 2], .bool false, I 300]) ∧ Up w w' := by
  have k := admit_call ⟨2, 0, 0, 3, 100⟩ ⟨0, 2, 2⟩ 250 2 pg_ok (lv_ok _ _ _ (by decide) (by decide) (by decide)) (by decide) (by decide) w
  have hF : ¬ Pol.F ⟨2, 0, 0, 3, 100⟩ := by decide
  have hG : Pol.G ⟨2, 0, 0, 3, 100⟩ := by decide
  have hf : ¬ WFits 3 100 2 2 250 2 := by decide
  have e1 : pNew ⟨2, 0, 0, 3, 100⟩ ⟨0, 2, 2⟩ 250 2 = ⟨0, 2, 2⟩ := by unfold pNew; rw [if_neg hF, if_pos hG, wIx, if_neg hf, wCt, if_neg hf]
  have e2 : pOk ⟨2, 0, 0, 3, 100⟩ ⟨0, 2, 2⟩ 250 2 = false := by unfold pOk; rw [if_neg hF, if_pos hG]; exact decide_eq_false hf
  have e3 : pRetry ⟨2, 0, 0, 3, 100⟩ ⟨0, 2, 2⟩ 250 2 = 300 := by unfold pRetry; rw [e2]; unfold pRule; rw [if_neg hF, if_pos hG]; rfl
  rw [e1, e2, e3] at k
  exact k
theorem live3 (w : World) : Calls Try.prog 12 #[FlowV] w fun e w' => e = .returned (.bool true) ∧ Up w w' := by
  have k := valid_call ⟨1, 10, 20, 0, 0⟩ w
  rw [show pValid ⟨1, 10, 20, 0, 0⟩ = true by decide] at k
  exact k
theorem live4 (w : World) : Calls Try.prog 19 #[GridV, .agg #[I 0, I 2, I 2]] w fun e w' => e = .returned (.bool true) ∧ Up w w' := by
  have k := fits_call ⟨2, 0, 0, 3, 100⟩ ⟨0, 2, 2⟩ w
  rw [show pFits ⟨2, 0, 0, 3, 100⟩ ⟨0, 2, 2⟩ = true by decide] at k
  exact k
theorem live5 (w : World) : Calls Try.prog 11 #[FlowV, .agg #[I 0, I 0, I 0], I 5] w fun e w' => e = .returned (I 3) ∧ Up w w' := by
  have k := left_call ⟨1, 10, 20, 0, 0⟩ ⟨0, 0, 0⟩ 5 pf_ok (lv_ok _ _ _ (by decide) (by decide) (by decide)) (by decide) w
  rw [show pLeft ⟨1, 10, 20, 0, 0⟩ ⟨0, 0, 0⟩ 5 = 3 by decide] at k
  exact k
theorem live6 (w : World) : Calls Try.prog 21 #[GridV, .agg #[I 0, I 2, I 2], .agg #[I 0, I 1, I 9]] w fun e w' => e = .returned (.bool true) ∧ Up w w' := by
  have k := covers_call ⟨2, 0, 0, 3, 100⟩ ⟨0, 2, 2⟩ ⟨0, 1, 9⟩ w
  rw [show pCov ⟨2, 0, 0, 3, 100⟩ ⟨0, 2, 2⟩ ⟨0, 1, 9⟩ = true by decide] at k
  exact k
theorem live7 (w : World) : Calls Try.prog 20 #[FlowV, .agg #[I 3, I 0, I 0], .agg #[I 5, I 0, I 0]] w fun e w' => e = .returned (.agg #[I 5, I 0, I 0]) ∧ Up w w' := by
  have k := max_call ⟨1, 10, 20, 0, 0⟩ ⟨3, 0, 0⟩ ⟨5, 0, 0⟩ w
  rw [show pMax ⟨1, 10, 20, 0, 0⟩ ⟨3, 0, 0⟩ ⟨5, 0, 0⟩ = ⟨5, 0, 0⟩ by decide] at k
  exact k

set_option maxRecDepth 20000 in
set_option maxHeartbeats 3200000 in
theorem awake_any (w : World) : Calls Try.prog 8 #[] w fun e w' => e = .returned (.bool true) ∧ Up w w' := by
  go_enter Try.func8, Try.ntmps8
  go_wp2_with fail
  refine (flow_any _).mono ?_
  rintro e w1 ⟨rfl, u1⟩
  go_wp2_with fail
  refine (live1 _).mono ?_
  rintro e w2 ⟨rfl, u2⟩
  have v2 := u1.trans u2
  clear u1 u2
  go_wp2_with fail
  refine (grid_any _).mono ?_
  rintro e w3 ⟨rfl, u3⟩
  have b3 : Box w3 w2.heap.size #[I 35, I 0, I 0] := (Box.new _ _ _).up u3
  have v3 := v2.trans ((Up.alloc _ _).trans u3)
  have hz := v2.size
  clear u3 v2
  generalize w2.heap.size = B at *
  go_wp2_with fail
  refine (live2 _).mono ?_
  rintro e w4 ⟨rfl, u4⟩
  replace b3 := b3.up u4
  have v4 := v3.trans u4
  clear u4 v3
  obtain ⟨d0, d1, d2⟩ := b3.c3
  have df := b3.frozen
  have dz := b3.lt
  go_wp2_with fail
  have b5 := b3.set3 (x := I 0) (y := I 2) (z := I 2)
  have v5 := Up.set3 v4 hz (I 0) (I 2) (I 2)
  generalize World.setCell _ _ _ = w5 at *
  clear d0 d1 d2 df dz b3 v4
  have sof : ∀ {w' : World}, Up w5 w' → w'.cell? ⟨B, 0, none⟩ = some (I 0) ∧ w'.cell? ⟨B, 1, none⟩ = some (I 2) ∧ w'.cell? ⟨B, 2, none⟩ = some (I 2) ∧ Up w5 w' := fun u => ⟨(b5.up u).c3.1, (b5.up u).c3.2.1, (b5.up u).c3.2.2, u⟩
  have hs := sof (Up.drew w5)
  go_region_held3 (fun w' => w'.cell? ⟨B, 0, none⟩ = some (I 0) ∧ w'.cell? ⟨B, 1, none⟩ = some (I 2) ∧ w'.cell? ⟨B, 2, none⟩ = some (I 2) ∧ Up w5 w') (with_reducible exact hs)
    (first
    | (go_at_call 22; refine (flow_any _).mono ?_; rintro e w6 ⟨rfl, u6⟩; replace hs := sof (Up.trans hs.2.2.2 u6))
    | (go_at_call 23; refine (grid_any _).mono ?_; rintro e w6 ⟨rfl, u6⟩; replace hs := sof (Up.trans hs.2.2.2 u6))
    | (go_at_call 12; refine (live3 _).mono ?_; rintro e w6 ⟨rfl, u6⟩; replace hs := sof (Up.trans hs.2.2.2 u6))
    | (go_at_call 19; refine (live4 _).mono ?_; rintro e w6 ⟨rfl, u6⟩; replace hs := sof (Up.trans hs.2.2.2 u6))
    | (go_at_call 11; refine (live5 _).mono ?_; rintro e w6 ⟨rfl, u6⟩; replace hs := sof (Up.trans hs.2.2.2 u6))
    | (go_at_call 21; refine (live6 _).mono ?_; rintro e w6 ⟨rfl, u6⟩; replace hs := sof (Up.trans hs.2.2.2 u6))
    | (go_at_call 20; refine (live7 _).mono ?_; rintro e w6 ⟨rfl, u6⟩; replace hs := sof (Up.trans hs.2.2.2 u6)))
  go_wp2
  go_ret
  exact ⟨rfl, v5.trans hs.2.2.2⟩
end Go.Proofs.Ythpcjhihifhmgaa
