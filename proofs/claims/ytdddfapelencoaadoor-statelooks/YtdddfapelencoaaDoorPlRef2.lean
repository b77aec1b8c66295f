/- policy: the reference's Fits and Admit. -/
import Derived.Test.YtdddfapelencoaaDoorPlRef
import Derived.Test.YtdddfapelencoaaDoorHeldTo
set_option linter.unusedVariables false
namespace Go.Proofs.YtdddfapelencoaaDoor
open Go Go.RowKit

set_option maxHeartbeats 1600000 in
theorem rfits_yes (k : Int) (g s l p t i c x y z : Nat) (kv : ∀ w, Calls Tryd.prog 34 #[Pv k g s l p] w fun e w' => e = .returned (.bool true) ∧ Up w w')
    (kf : ∀ w, Calls Tryd.prog 35 #[Pv k g s l p, Lv t i c] w fun e w' => e = .returned (Lv x y z) ∧ Up w w') (w : World) :
    Calls Tryd.prog 23 #[Pv k g s l p, Lv t i c] w fun e w' => e = .returned (.bool (decide (x = t ∧ y = i ∧ z = c))) ∧ Up w w' := by
  obtain ⟨o, ho⟩ : ∃ o, decide (x = t ∧ y = i ∧ z = c) = o := ⟨_, rfl⟩
  rw [ho]
  have hq := fun w => level_eq x y z t i c w
  rw [ho] at hq
  clear ho
  go_enter Tryd.func23, Tryd.ntmps23
  go_wp2_with fail
  have b0 : Box ((w.alloc (Obj.cells #[.int .i64 k, V g, V s, V l, V p] 35)).alloc (Obj.cells #[V t, V i, V c] 37)) w.heap.size #[.int .i64 k, V g, V s, V l, V p] := (Box.new _ _ _).alloc _
  have b1 : Box ((w.alloc (Obj.cells #[.int .i64 k, V g, V s, V l, V p] 35)).alloc (Obj.cells #[V t, V i, V c] 37)) (w.heap.size + 1) #[V t, V i, V c] := Box.newAt (by simp)
  have v1 := up2 w (Obj.cells #[.int .i64 k, V g, V s, V l, V p] 35) (Obj.cells #[V t, V i, V c] 37)
  generalize (w.alloc (Obj.cells #[.int .i64 k, V g, V s, V l, V p] 35)).alloc (Obj.cells #[V t, V i, V c] 37) = w1 at *
  generalize w.heap.size = B at *
  have sof : ∀ {w' : World}, Up w1 w' → w'.cell? ⟨B, 0, none⟩ = some (.int .i64 k) ∧ w'.cell? ⟨B, 1, none⟩ = some (V g) ∧ w'.cell? ⟨B, 2, none⟩ = some (V s) ∧ w'.cell? ⟨B, 3, none⟩ = some (V l) ∧ w'.cell? ⟨B, 4, none⟩ = some (V p) ∧ w'.cell? ⟨B + 1, 0, none⟩ = some (V t) ∧ w'.cell? ⟨B + 1, 1, none⟩ = some (V i) ∧ w'.cell? ⟨B + 1, 2, none⟩ = some (V c) := fun u =>
    ⟨(b0.up u).cell 0, (b0.up u).cell 1, (b0.up u).cell 2, (b0.up u).cell 3, (b0.up u).cell 4, (b1.up u).cell 0, (b1.up u).cell 1, (b1.up u).cell 2⟩
  have hu := Up.drew w1
  have hs := sof hu
  go_region_held3 (fun w' => w'.cell? ⟨B, 0, none⟩ = some (.int .i64 k) ∧ w'.cell? ⟨B, 1, none⟩ = some (V g) ∧ w'.cell? ⟨B, 2, none⟩ = some (V s) ∧ w'.cell? ⟨B, 3, none⟩ = some (V l) ∧ w'.cell? ⟨B, 4, none⟩ = some (V p) ∧ w'.cell? ⟨B + 1, 0, none⟩ = some (V t) ∧ w'.cell? ⟨B + 1, 1, none⟩ = some (V i) ∧ w'.cell? ⟨B + 1, 2, none⟩ = some (V c)) (with_reducible exact hs)
    (first
    | (go_at_call 34; refine (kv _).mono ?_; rintro e w4 ⟨rfl, u4⟩; replace hs := sof (Up.trans hu u4); replace hu := Up.trans hu u4)
    | (go_at_call 35; refine (kf _).mono ?_; rintro e w4 ⟨rfl, u4⟩; replace hs := sof (Up.trans hu u4); replace hu := Up.trans hu u4))
  go_wp2
  go_ret
  exact ⟨rfl, v1.trans hu⟩

set_option maxHeartbeats 1600000 in
theorem rfits_no (k : Int) (g s l p t i c : Nat) (kv : ∀ w, Calls Tryd.prog 34 #[Pv k g s l p] w fun e w' => e = .returned (.bool false) ∧ Up w w') (w : World) :
    Calls Tryd.prog 23 #[Pv k g s l p, Lv t i c] w fun e w' => e = .returned (.bool false) ∧ Up w w' := by
  go_enter Tryd.func23, Tryd.ntmps23
  go_wp2_with fail
  have b0 : Box ((w.alloc (Obj.cells #[.int .i64 k, V g, V s, V l, V p] 35)).alloc (Obj.cells #[V t, V i, V c] 37)) w.heap.size #[.int .i64 k, V g, V s, V l, V p] := (Box.new _ _ _).alloc _
  have v1 := up2 w (Obj.cells #[.int .i64 k, V g, V s, V l, V p] 35) (Obj.cells #[V t, V i, V c] 37)
  generalize (w.alloc (Obj.cells #[.int .i64 k, V g, V s, V l, V p] 35)).alloc (Obj.cells #[V t, V i, V c] 37) = w1 at *
  generalize w.heap.size = B at *
  have sof : ∀ {w' : World}, Up w1 w' → Box w' B #[.int .i64 k, V g, V s, V l, V p] ∧ True := fun u => ⟨b0.up u, trivial⟩
  have hu := Up.drew w1
  have hs := sof hu
  refine wp_region_held_drew (S := fun w' => Box w' B #[.int .i64 k, V g, V s, V l, V p] ∧ True) (by kernel_rfl) hs (fun hs0 => ?_)
  refine take_to (some 5) (i := 0) (v := Pv k g s l p) rfl rfl (by kernel_rfl) (by kernel_rfl) (by kernel_rfl) (fun _ _ _ h => h) (Or.inl ⟨by kernel_rfl, by intro w hSw; obtain ⟨c0, c1, c2, c3, c4⟩ := hSw.1.c5; go_simp⟩) hs ?_
  simp only [Act.put, List.setIfInBounds_toArray, List.set_cons_zero, List.set_cons_succ]
  refine wpAnyH_ready (rs := [1]) (by kernel_rfl) (by simp) ?_
  refine AllReadyH.cons rfl (fun K hK => ?_) AllReadyH.nil
  go_simp
  refine (kv _).mono ?_
  rintro e w4 ⟨rfl, uw4⟩
  replace hu := Up.trans hu uw4
  replace hs := sof hu
  refine hK.out _ _ hs (fun _ => ?_)
  clear hK K uw4
  refine take_to (some 7) (i := 2) (v := .bool false) rfl rfl (by kernel_rfl) (by kernel_rfl) (by kernel_rfl) (fun _ _ _ h => h) (Or.inl ⟨by kernel_rfl, by intro w hSw; go_simp⟩) hs ?_
  simp only [Act.put, List.setIfInBounds_toArray, List.set_cons_zero, List.set_cons_succ]
  refine take_to (some 8) (i := 3) (v := undef) rfl rfl (by kernel_rfl) (by kernel_rfl) (by kernel_rfl) (fun _ _ _ h => h) (Or.inr ⟨by kernel_rfl, rfl⟩) hs ?_
  simp only [Act.put, List.setIfInBounds_toArray, List.set_cons_zero, List.set_cons_succ]
  refine take_to (some 9) (i := 4) (v := undef) rfl rfl (by kernel_rfl) (by kernel_rfl) (by kernel_rfl) (fun _ _ _ h => h) (Or.inr ⟨by kernel_rfl, rfl⟩) hs ?_
  simp only [Act.put, List.setIfInBounds_toArray, List.set_cons_zero, List.set_cons_succ]
  refine take_to (some 10) (i := 5) (v := undef) rfl rfl (by kernel_rfl) (by kernel_rfl) (by kernel_rfl) (fun _ _ _ h => h) (Or.inr ⟨by kernel_rfl, rfl⟩) hs ?_
  simp only [Act.put, List.setIfInBounds_toArray, List.set_cons_zero, List.set_cons_succ]
  refine take_to (some 11) (i := 6) (v := undef) rfl rfl (by kernel_rfl) (by kernel_rfl) (by kernel_rfl) (fun _ _ _ h => h) (Or.inr ⟨by kernel_rfl, rfl⟩) hs ?_
  simp only [Act.put, List.setIfInBounds_toArray, List.set_cons_zero, List.set_cons_succ]
  refine take_to (some 12) (i := 7) (v := undef) rfl rfl (by kernel_rfl) (by kernel_rfl) (by kernel_rfl) (fun _ _ _ h => h) (Or.inr ⟨by kernel_rfl, rfl⟩) hs ?_
  simp only [Act.put, List.setIfInBounds_toArray, List.set_cons_zero, List.set_cons_succ]
  refine take_to (some 13) (i := 8) (v := .bool false) rfl rfl (by kernel_rfl) (by kernel_rfl) (by kernel_rfl) (fun _ _ _ h => h) (Or.inl ⟨by kernel_rfl, by intro w hSw; go_simp⟩) hs ?_
  simp only [Act.put, List.setIfInBounds_toArray, List.set_cons_zero, List.set_cons_succ]
  refine take_to (some 4) (i := 9) (v := .bool false) rfl rfl (by kernel_rfl) (by kernel_rfl) (by kernel_rfl) (fun _ _ _ h => h) (Or.inl ⟨by kernel_rfl, by intro w hSw; go_simp⟩) hs ?_
  simp only [Act.put, List.setIfInBounds_toArray, List.set_cons_zero, List.set_cons_succ]
  refine wpAnyH_done (by kernel_rfl) ?_ _
  go_wp2
  go_ret
  exact ⟨rfl, v1.trans hu⟩
theorem rfits_call (P : Pol) (v : Lev) (w : World) : Calls Tryd.prog 23 #[PP P, LL v] w fun e w' => e = .returned (.bool (pFits P v)) ∧ Up w w' := by
  have kv := rvalid_call P
  cases h : pValid P
  · rw [h] at kv
    rw [show pFits P v = false from decide_eq_false (fun k => (of_decide_eq_false h : ¬ (P.F ∨ P.G)) k.1)]
    exact rfits_no P.k P.g P.s P.l P.p v.t v.i v.c kv w
  · rw [h] at kv
    have e : pFits P v = decide ((pForm P v).t = v.t ∧ (pForm P v).i = v.i ∧ (pForm P v).c = v.c) := by
      have hi : P.F ∨ P.G := of_decide_eq_true h
      unfold pFits
      rw [decide_eq_decide]
      generalize pForm P v = f
      obtain ⟨a, b, d⟩ := f
      obtain ⟨t, i, c⟩ := v
      simp [hi]
      omega
    rw [e]
    exact rfits_yes P.k P.g P.s P.l P.p v.t v.i v.c _ _ _ kv (rform_call P v) w

end Go.Proofs.YtdddfapelencoaaDoor
