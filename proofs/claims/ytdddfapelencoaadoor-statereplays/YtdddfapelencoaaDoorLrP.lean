/- Merged: WnRef, PlRef, PlRef2. -/
import Derived.Test.YtdddfapelencoaaDoorWnCalls
import Derived.Test.YtdddfapelencoaaDoorPlAny
import Derived.Test.YtdddfapelencoaaDoorLrN
import Derived.Test.YtdddfapelencoaaDoorHeldTo
set_option linter.unusedVariables false
namespace Go.Proofs.YtdddfapelencoaaDoor
open Go Go.RowKit










end Go.Proofs.YtdddfapelencoaaDoor

set_option linter.unusedVariables false
namespace Go.Proofs.YtdddfapelencoaaDoor
open Go Go.RowKit

theorem pvalid_iff {k : Int} {g s l p : Nat} : pValid ⟨k, g, s, l, p⟩ = true ↔ (k = 1 ∧ 1 ≤ g ∧ l = 0 ∧ p = 0) ∨ (k = 2 ∧ 1 ≤ p ∧ g = 0 ∧ s = 0) := decide_eq_true_iff
theorem rvalid_any (k : Int) (g s l p : Nat) (w : World) : Calls Tryd.prog 34 #[Pv k g s l p] w fun e w' => e = .returned (.bool (pValid ⟨k, g, s, l, p⟩)) ∧ Up w w' := by
  obtain ⟨o, ho⟩ : ∃ o, pValid ⟨k, g, s, l, p⟩ = o := ⟨_, rfl⟩
  rw [ho]
  replace ho : Hid (pValid ⟨k, g, s, l, p⟩ = o) := ho
  go_enter Tryd.func34, Tryd.ntmps34
  go_wp2
  all_goals
    go_ret
    refine ⟨?_, Up.alloc _ _⟩
    refine congrArg (fun b => Ending.returned (Value.bool b)) (?_ : _ = _)
    rw [← ho.out, Bool.eq_iff_iff, pvalid_iff]
    clear ho
    simp at *
    try omega
theorem rvalid_call (P : Pol) (w : World) : Calls Tryd.prog 34 #[PP P] w fun e w' => e = .returned (.bool (pValid P)) ∧ Up w w' := rvalid_any P.k P.g P.s P.l P.p w

theorem is_k {P : Pol} (h : pValid P = true) : P.F ∧ P.k = 1 ∨ P.G ∧ ((P.k : Int) == 1) = false := by
  have := of_decide_eq_true h
  rcases this with h | h
  · exact Or.inl ⟨h, h.1⟩
  · exact Or.inr ⟨h, by have := h.1; simp; omega⟩

set_option maxHeartbeats 800000 in
theorem rform_walk (k : Int) (g s l p t i c x y z : Nat) (o : Bool) (kv : ∀ w, Calls Tryd.prog 34 #[Pv k g s l p] w fun e w' => e = .returned (.bool o) ∧ Up w w')
    (h : Hid (o = false ∧ x = 0 ∧ y = 0 ∧ z = 0 ∨ o = true ∧ k = 1 ∧ x = t ∧ y = 0 ∧ z = 0 ∨ o = true ∧ ((k : Int) == 1) = false ∧ x = 0 ∧ y = i ∧ z = c)) (w : World) :
    Calls Tryd.prog 35 #[Pv k g s l p, Lv t i c] w fun e w' => e = .returned (Lv x y z) ∧ Up w w' := by
  go_enter Tryd.func35, Tryd.ntmps35
  go_wp2_with fail
  refine (kv _).mono ?_
  rintro e w1 ⟨rfl, u1⟩
  have b0 : Box w1 w.heap.size #[.int .i64 k, V g, V s, V l, V p] := (((Box.new _ _ _).alloc _).alloc _).up u1
  have b1 : Box w1 (w.heap.size + 1) #[V t, V i, V c] := ((Box.newAt (by simp)).alloc _).up u1
  have b3 : Box w1 (w.heap.size + 1 + 1) #[Z, Z, Z] := (Box.newAt (by simp)).up u1
  have v1 := (up3 w _ _ _).trans u1
  clear u1 kv
  obtain ⟨c0, c1, c2, c3, c4⟩ := b0.c5
  obtain ⟨d0, d1, d2⟩ := b1.c3
  obtain ⟨f0, f1, f2⟩ := b3.c3
  have ff := b3.frozen
  have zz := b3.lt
  rcases h.out with ⟨rfl, rfl, rfl, rfl⟩ | ⟨rfl, rfl, rfl, rfl, rfl⟩ | ⟨rfl, hk, rfl, rfl, rfl⟩
  all_goals
    clear h
    go_wp2
  · have b4 := b3.set3 (x := Z) (y := Z) (z := Z)
    have v4 := Up.set3 v1 (k := w.heap.size + 1 + 1) (by omega) Z Z Z
    clear c0 c1 c2 c3 c4 d0 d1 d2 f0 f1 f2 ff
    obtain ⟨d0, d1, d2⟩ := b4.c3
    generalize World.setCell _ _ _ = w4 at *
    exact bodyPost_ret (v := .agg #[Z, Z, Z]) (by simp [results, Tryd.results35, go_sem, d0, d1, d2]) rfl ⟨rfl, v4⟩
  · have b4 := b3.set3 (x := V x) (y := Z) (z := Z)
    have v4 := Up.set3 v1 (k := w.heap.size + 1 + 1) (by omega) (V x) Z Z
    clear c0 c1 c2 c3 c4 d0 d1 d2 f0 f1 f2 ff
    obtain ⟨d0, d1, d2⟩ := b4.c3
    generalize World.setCell _ _ _ = w4 at *
    exact bodyPost_ret (v := .agg #[V x, Z, Z]) (by simp [results, Tryd.results35, go_sem, d0, d1, d2]) rfl ⟨rfl, v4⟩
  · have b4 := b3.set3 (x := Z) (y := V y) (z := V z)
    have v4 := Up.set3 v1 (k := w.heap.size + 1 + 1) (by omega) Z (V y) (V z)
    clear c0 c1 c2 c3 c4 d0 d1 d2 f0 f1 f2 ff
    obtain ⟨d0, d1, d2⟩ := b4.c3
    generalize World.setCell _ _ _ = w4 at *
    exact bodyPost_ret (v := .agg #[Z, V y, V z]) (by simp [results, Tryd.results35, go_sem, d0, d1, d2]) rfl ⟨rfl, v4⟩
theorem rform_call (P : Pol) (v : Lev) (w : World) : Calls Tryd.prog 35 #[PP P, LL v] w fun e w' => e = .returned (LL (pForm P v)) ∧ Up w w' := by
  refine rform_walk P.k P.g P.s P.l P.p v.t v.i v.c _ _ _ (pValid P) (rvalid_call P) ?_ w
  cases h : pValid P
  · have hn : ¬ (P.F ∨ P.G) := of_decide_eq_false h
    have e : pForm P v = Lev0 := by unfold pForm; rw [if_neg (fun k => hn (Or.inl k)), if_neg (fun k => hn (Or.inr k))]
    rw [e]; exact Or.inl ⟨rfl, rfl, rfl, rfl⟩
  · rcases is_k h with ⟨hF, hk⟩ | ⟨hG, hk⟩
    · rw [show pForm P v = _ from if_pos hF]; exact Or.inr (Or.inl ⟨rfl, hk, rfl, rfl, rfl⟩)
    · rw [show pForm P v = ⟨0, v.i, v.c⟩ by unfold pForm; rw [if_neg (fun k => f_not_g k hG), if_pos hG]]; exact Or.inr (Or.inr ⟨rfl, hk, rfl, rfl, rfl⟩)


theorem gcov_iff6 {c v : Lev} : gCov c v = true ↔ v.i < c.i ∨ v.i = c.i ∧ v.c ≤ c.c := by simp [gCov]

set_option maxHeartbeats 800000 in
theorem rcovers_walk (k : Int) (g s l p t i c t' i' c' : Nat) (o q : Bool) (kv : ∀ w, Calls Tryd.prog 34 #[Pv k g s l p] w fun e w' => e = .returned (.bool o) ∧ Up w w')
    (h : Hid (o = false ∧ q = false ∨ o = true ∧ k = 1 ∧ q = decide (t' ≤ t) ∨ o = true ∧ ((k : Int) == 1) = false ∧ q = gCov ⟨t, i, c⟩ ⟨t', i', c'⟩)) (w : World) :
    Calls Tryd.prog 39 #[Pv k g s l p, Lv t i c, Lv t' i' c'] w fun e w' => e = .returned (.bool q) ∧ Up w w' := by
  go_enter Tryd.func39, Tryd.ntmps39
  go_wp2_with fail
  refine (kv _).mono ?_
  rintro e w1 ⟨rfl, u1⟩
  have b0 : Box w1 w.heap.size #[.int .i64 k, V g, V s, V l, V p] := (((Box.new _ _ _).alloc _).alloc _).up u1
  have b1 : Box w1 (w.heap.size + 1) #[V t, V i, V c] := ((Box.newAt (by simp)).alloc _).up u1
  have b3 : Box w1 (w.heap.size + 1 + 1) #[V t', V i', V c'] := (Box.newAt (by simp)).up u1
  have v1 := (up3 w _ _ _).trans u1
  clear u1 kv
  obtain ⟨c0, c1, c2, c3, c4⟩ := b0.c5
  obtain ⟨d0, d1, d2⟩ := b1.c3
  obtain ⟨f0, f1, f2⟩ := b3.c3
  rcases h.out with ⟨rfl, rfl⟩ | ⟨rfl, rfl, rfl⟩ | ⟨rfl, hk, hq⟩
  · clear h
    go_wp2
    go_ret
    exact ⟨rfl, v1⟩
  · clear h
    go_wp2
    go_ret
    exact ⟨rfl, v1⟩
  · replace hq : Hid (q = gCov ⟨t, i, c⟩ ⟨t', i', c'⟩) := hq
    clear h
    by_cases hi : i' = i
    · subst hi
      have hq2 : q = decide (c' ≤ c) := by rw [hq.out, Bool.eq_iff_iff, gcov_iff6]; simp
      subst hq2
      clear hq
      go_wp2
      go_ret
      exact ⟨rfl, v1⟩
    · have hi' : ((i' : Int) == (i : Int)) = false := by simp; omega
      have hq2 : q = decide (i' < i) := by rw [hq.out, Bool.eq_iff_iff, gcov_iff6]; simp; omega
      subst hq2
      clear hq hi
      go_wp2
      go_ret
      exact ⟨rfl, v1⟩
theorem rcovers_call (P : Pol) (c v : Lev) (w : World) : Calls Tryd.prog 39 #[PP P, LL c, LL v] w fun e w' => e = .returned (.bool (pCov P c v)) ∧ Up w w' := by
  refine rcovers_walk P.k P.g P.s P.l P.p c.t c.i c.c v.t v.i v.c (pValid P) _ (rvalid_call P) ?_ w
  cases h : pValid P
  · have hn : ¬ (P.F ∨ P.G) := of_decide_eq_false h
    exact Or.inl ⟨rfl, by unfold pCov; rw [if_neg (fun k => hn (Or.inl k)), if_neg (fun k => hn (Or.inr k))]⟩
  · rcases is_k h with ⟨hF, hk⟩ | ⟨hG, hk⟩
    · exact Or.inr (Or.inl ⟨rfl, hk, if_pos hF⟩)
    · exact Or.inr (Or.inr ⟨rfl, hk, by unfold pCov; rw [if_neg (fun k => f_not_g k hG), if_pos hG]⟩)

end Go.Proofs.YtdddfapelencoaaDoor

set_option linter.unusedVariables false
namespace Go.Proofs.YtdddfapelencoaaDoor
open Go Go.RowKit

set_option maxHeartbeats 1600000 in
theorem rfits_yes (k : Int) (g s l p t i c x y z : Nat) (kv : ∀ w, Calls Tryd.prog 34 #[Pv k g s l p] w fun e w' => e = .returned (.bool true) ∧ Up w w')
    (kf : ∀ w, Calls Tryd.prog 35 #[Pv k g s l p, Lv t i c] w fun e w' => e = .returned (Lv x y z) ∧ Up w w') (w : World) :
    Calls Tryd.prog 23 #[Pv k g s l p, Lv t i c] w fun e w' => e = .returned (.bool (decide (x = t ∧ y = i ∧ z = c))) ∧ Up w w' := by
  obtain ⟨o, ho⟩ : ∃ o, decide (x = t ∧ y = i ∧ z = c) = o := ⟨_, rfl⟩
  rw [ho]
  have hq := fun w => level_eq x y z t i c w
  rw [ho] at hq
  clear ho
  go_enter Tryd.func23, Tryd.ntmps23
  go_wp2_with fail
  have b0 : Box ((w.alloc (Obj.cells #[.int .i64 k, V g, V s, V l, V p] 35)).alloc (Obj.cells #[V t, V i, V c] 37)) w.heap.size #[.int .i64 k, V g, V s, V l, V p] := (Box.new _ _ _).alloc _
  have b1 : Box ((w.alloc (Obj.cells #[.int .i64 k, V g, V s, V l, V p] 35)).alloc (Obj.cells #[V t, V i, V c] 37)) (w.heap.size + 1) #[V t, V i, V c] := Box.newAt (by simp)
  have v1 := up2 w (Obj.cells #[.int .i64 k, V g, V s, V l, V p] 35) (Obj.cells #[V t, V i, V c] 37)
  generalize (w.alloc (Obj.cells #[.int .i64 k, V g, V s, V l, V p] 35)).alloc (Obj.cells #[V t, V i, V c] 37) = w1 at *
  generalize w.heap.size = B at *
  have sof : ∀ {w' : World}, Up w1 w' → w'.cell? ⟨B, 0, none⟩ = some (.int .i64 k) ∧ w'.cell? ⟨B, 1, none⟩ = some (V g) ∧ w'.cell? ⟨B, 2, none⟩ = some (V s) ∧ w'.cell? ⟨B, 3, none⟩ = some (V l) ∧ w'.cell? ⟨B, 4, none⟩ = some (V p) ∧ w'.cell? ⟨B + 1, 0, none⟩ = some (V t) ∧ w'.cell? ⟨B + 1, 1, none⟩ = some (V i) ∧ w'.cell? ⟨B + 1, 2, none⟩ = some (V c) := fun u =>
    ⟨(b0.up u).cell 0, (b0.up u).cell 1, (b0.up u).cell 2, (b0.up u).cell 3, (b0.up u).cell 4, (b1.up u).cell 0, (b1.up u).cell 1, (b1.up u).cell 2⟩
  have hu := Up.drew w1
  have hs := sof hu
  go_region_held3 (fun w' => w'.cell? ⟨B, 0, none⟩ = some (.int .i64 k) ∧ w'.cell? ⟨B, 1, none⟩ = some (V g) ∧ w'.cell? ⟨B, 2, none⟩ = some (V s) ∧ w'.cell? ⟨B, 3, none⟩ = some (V l) ∧ w'.cell? ⟨B, 4, none⟩ = some (V p) ∧ w'.cell? ⟨B + 1, 0, none⟩ = some (V t) ∧ w'.cell? ⟨B + 1, 1, none⟩ = some (V i) ∧ w'.cell? ⟨B + 1, 2, none⟩ = some (V c)) (with_reducible exact hs)
    (first
    | (go_at_call 34; refine (kv _).mono ?_; rintro e w4 ⟨rfl, u4⟩; replace hs := sof (Up.trans hu u4); replace hu := Up.trans hu u4)
    | (go_at_call 35; refine (kf _).mono ?_; rintro e w4 ⟨rfl, u4⟩; replace hs := sof (Up.trans hu u4); replace hu := Up.trans hu u4))
  go_wp2
  go_ret
  exact ⟨rfl, v1.trans hu⟩

set_option maxHeartbeats 1600000 in
theorem rfits_no (k : Int) (g s l p t i c : Nat) (kv : ∀ w, Calls Tryd.prog 34 #[Pv k g s l p] w fun e w' => e = .returned (.bool false) ∧ Up w w') (w : World) :
    Calls Tryd.prog 23 #[Pv k g s l p, Lv t i c] w fun e w' => e = .returned (.bool false) ∧ Up w w' := by
  go_enter Tryd.func23, Tryd.ntmps23
  go_wp2_with fail
  have b0 : Box ((w.alloc (Obj.cells #[.int .i64 k, V g, V s, V l, V p] 35)).alloc (Obj.cells #[V t, V i, V c] 37)) w.heap.size #[.int .i64 k, V g, V s, V l, V p] := (Box.new _ _ _).alloc _
  have v1 := up2 w (Obj.cells #[.int .i64 k, V g, V s, V l, V p] 35) (Obj.cells #[V t, V i, V c] 37)
  generalize (w.alloc (Obj.cells #[.int .i64 k, V g, V s, V l, V p] 35)).alloc (Obj.cells #[V t, V i, V c] 37) = w1 at *
  generalize w.heap.size = B at *
  have sof : ∀ {w' : World}, Up w1 w' → Box w' B #[.int .i64 k, V g, V s, V l, V p] ∧ True := fun u => ⟨b0.up u, trivial⟩
  have hu := Up.drew w1
  have hs := sof hu
  refine wp_region_held_drew (S := fun w' => Box w' B #[.int .i64 k, V g, V s, V l, V p] ∧ True) (by kernel_rfl) hs (fun hs0 => ?_)
  refine take_to (some 5) (i := 0) (v := Pv k g s l p) rfl rfl (by kernel_rfl) (by kernel_rfl) (by kernel_rfl) (fun _ _ _ h => h) (Or.inl ⟨by kernel_rfl, by intro w hSw; obtain ⟨c0, c1, c2, c3, c4⟩ := hSw.1.c5; go_simp⟩) hs ?_
  simp only [Act.put, List.setIfInBounds_toArray, List.set_cons_zero, List.set_cons_succ]
  refine wpAnyH_ready (rs := [1]) (by kernel_rfl) (by simp) ?_
  refine AllReadyH.cons rfl (fun K hK => ?_) AllReadyH.nil
  go_simp
  refine (kv _).mono ?_
  rintro e w4 ⟨rfl, uw4⟩
  replace hu := Up.trans hu uw4
  replace hs := sof hu
  refine hK.out _ _ hs (fun _ => ?_)
  clear hK K uw4
  refine take_to (some 7) (i := 2) (v := .bool false) rfl rfl (by kernel_rfl) (by kernel_rfl) (by kernel_rfl) (fun _ _ _ h => h) (Or.inl ⟨by kernel_rfl, by intro w hSw; go_simp⟩) hs ?_
  simp only [Act.put, List.setIfInBounds_toArray, List.set_cons_zero, List.set_cons_succ]
  refine take_to (some 8) (i := 3) (v := undef) rfl rfl (by kernel_rfl) (by kernel_rfl) (by kernel_rfl) (fun _ _ _ h => h) (Or.inr ⟨by kernel_rfl, rfl⟩) hs ?_
  simp only [Act.put, List.setIfInBounds_toArray, List.set_cons_zero, List.set_cons_succ]
  refine take_to (some 9) (i := 4) (v := undef) rfl rfl (by kernel_rfl) (by kernel_rfl) (by kernel_rfl) (fun _ _ _ h => h) (Or.inr ⟨by kernel_rfl, rfl⟩) hs ?_
  simp only [Act.put, List.setIfInBounds_toArray, List.set_cons_zero, List.set_cons_succ]
  refine take_to (some 10) (i := 5) (v := undef) rfl rfl (by kernel_rfl) (by kernel_rfl) (by kernel_rfl) (fun _ _ _ h => h) (Or.inr ⟨by kernel_rfl, rfl⟩) hs ?_
  simp only [Act.put, List.setIfInBounds_toArray, List.set_cons_zero, List.set_cons_succ]
  refine take_to (some 11) (i := 6) (v := undef) rfl rfl (by kernel_rfl) (by kernel_rfl) (by kernel_rfl) (fun _ _ _ h => h) (Or.inr ⟨by kernel_rfl, rfl⟩) hs ?_
  simp only [Act.put, List.setIfInBounds_toArray, List.set_cons_zero, List.set_cons_succ]
  refine take_to (some 12) (i := 7) (v := undef) rfl rfl (by kernel_rfl) (by kernel_rfl) (by kernel_rfl) (fun _ _ _ h => h) (Or.inr ⟨by kernel_rfl, rfl⟩) hs ?_
  simp only [Act.put, List.setIfInBounds_toArray, List.set_cons_zero, List.set_cons_succ]
  refine take_to (some 13) (i := 8) (v := .bool false) rfl rfl (by kernel_rfl) (by kernel_rfl) (by kernel_rfl) (fun _ _ _ h => h) (Or.inl ⟨by kernel_rfl, by intro w hSw; go_simp⟩) hs ?_
  simp only [Act.put, List.setIfInBounds_toArray, List.set_cons_zero, List.set_cons_succ]
  refine take_to (some 4) (i := 9) (v := .bool false) rfl rfl (by kernel_rfl) (by kernel_rfl) (by kernel_rfl) (fun _ _ _ h => h) (Or.inl ⟨by kernel_rfl, by intro w hSw; go_simp⟩) hs ?_
  simp only [Act.put, List.setIfInBounds_toArray, List.set_cons_zero, List.set_cons_succ]
  refine wpAnyH_done (by kernel_rfl) ?_ _
  go_wp2
  go_ret
  exact ⟨rfl, v1.trans hu⟩
theorem rfits_call (P : Pol) (v : Lev) (w : World) : Calls Tryd.prog 23 #[PP P, LL v] w fun e w' => e = .returned (.bool (pFits P v)) ∧ Up w w' := by
  have kv := rvalid_call P
  cases h : pValid P
  · rw [h] at kv
    rw [show pFits P v = false from decide_eq_false (fun k => (of_decide_eq_false h : ¬ (P.F ∨ P.G)) k.1)]
    exact rfits_no P.k P.g P.s P.l P.p v.t v.i v.c kv w
  · rw [h] at kv
    have e : pFits P v = decide ((pForm P v).t = v.t ∧ (pForm P v).i = v.i ∧ (pForm P v).c = v.c) := by
      have hi : P.F ∨ P.G := of_decide_eq_true h
      unfold pFits
      rw [decide_eq_decide]
      generalize pForm P v = f
      obtain ⟨a, b, d⟩ := f
      obtain ⟨t, i, c⟩ := v
      simp [hi]
      omega
    rw [e]
    exact rfits_yes P.k P.g P.s P.l P.p v.t v.i v.c _ _ _ kv (rform_call P v) w

end Go.Proofs.YtdddfapelencoaaDoor
