/- policy: the reference's Admit. -/
import Derived.Test.YthpcjhihifhmgaaPlRef3
set_option linter.unusedVariables false
namespace Go.Proofs.Ythpcjhihifhmgaa
open Go Go.RowKit


set_option maxHeartbeats 3200000 in
theorem radmit_grid (k : Int) (g s l p t i c now n y z R : Nat) (o : Bool) (hk : ((k : Int) == 1) = false) (kv : ∀ w, Calls Try.prog 24 #[Pv k g s l p] w fun e w' => e = .returned (.bool true) ∧ Up w w')
    (ka : ∀ w, Calls Try.prog 39 #[V l, V p, V i, V c, V now, V n] w fun e w' => e = .returned (.tuple #[V y, V z, .bool o]) ∧ Up w w')
    (kf : ∀ w, Calls Try.prog 36 #[Pv k g s l p, Lv t i c] w fun e w' => e = .returned (Lv 0 i c) ∧ Up w w')
    (kr : ∀ w, Calls Try.prog 40 #[V l, V p, V i, V c, V now, V n] w fun e w' => e = .returned (V R) ∧ Up w w')
    (hform : o = false → i = y ∧ c = z) (w : World) :
    Calls Try.prog 26 #[Pv k g s l p, Lv t i c, V now, V n] w fun e w' => e = .returned (.tuple #[Lv 0 y z, .bool o, V (if o then 0 else R)]) ∧ Up w w' := by
  go_enter Try.func26, Try.ntmps26
  go_wp2_with fail
  refine (kv _).mono ?_
  rintro e w1 ⟨rfl, u1⟩
  have b0 : Box w1 w.heap.size #[.int .i64 k, V g, V s, V l, V p] := (((Box.new _ _ _).alloc _).alloc _).up u1
  have b1 : Box w1 (w.heap.size + 1) #[V t, V i, V c] := ((Box.newAt (by simp)).alloc _).up u1
  have b3 : Box w1 (w.heap.size + 1 + 1) #[Z, Z, Z] := (Box.newAt (by simp)).up u1
  have v1 := (up3 w _ _ _).trans u1
  clear u1 kv
  obtain ⟨c0, c1, c2, c3, c4⟩ := b0.c5
  obtain ⟨d0, d1, d2⟩ := b1.c3
  go_wp2_with fail
  refine (ka _).mono ?_
  rintro e w2 ⟨rfl, u2⟩
  replace b0 := b0.up u2
  replace b1 := b1.up u2
  replace b3 := b3.up u2
  replace v1 := v1.trans u2
  clear u2 ka c0 c1 c2 c3 c4 d0 d1 d2 w1
  cases o
  · obtain ⟨rfl, rfl⟩ := hform rfl
    clear hform
    go_wp2_with fail
    have sof : ∀ {w' : World}, Up w2 w' → Box w' w.heap.size #[.int .i64 k, V g, V s, V l, V p] ∧ Box w' (w.heap.size + 1) #[V t, V i, V c] ∧ (∃ a b d : Nat, Box w' (w.heap.size + 1 + 1) #[V a, V b, V d]) ∧ Up w w' := fun u => ⟨b0.up u, b1.up u, ⟨0, 0, 0, b3.up u⟩, v1.trans u⟩
    have hu := Up.drew w2
    have hs := sof hu
    refine wp_region_held_drew (S := fun w' => Box w' w.heap.size #[.int .i64 k, V g, V s, V l, V p] ∧ Box w' (w.heap.size + 1) #[V t, V i, V c] ∧ (∃ a b d : Nat, Box w' (w.heap.size + 1 + 1) #[V a, V b, V d]) ∧ Up w w') (by kernel_rfl) hs (fun hs0 => ?_)
    refine take_to (some 69) (i := 0) (v := Pv k g s l p) rfl rfl (by kernel_rfl) (by kernel_rfl) (by kernel_rfl) (fun _ _ _ h => h) (Or.inl ⟨by kernel_rfl, by intro w hSw; obtain ⟨c0, c1, c2, c3, c4⟩ := hSw.1.c5; go_simp⟩) hs ?_
    simp only [Act.put, List.setIfInBounds_toArray, List.set_cons_zero, List.set_cons_succ]
    refine take_to (some 70) (i := 1) (v := Lv t i c) rfl rfl (by kernel_rfl) (by kernel_rfl) (by kernel_rfl) (fun _ _ _ h => h) (Or.inl ⟨by kernel_rfl, by intro w hSw; obtain ⟨d0, d1, d2⟩ := hSw.2.1.c3; go_simp⟩) hs ?_
    simp only [Act.put, List.setIfInBounds_toArray, List.set_cons_zero, List.set_cons_succ]
    refine take_to (some 72) (i := 3) (v := .pointer (some ⟨w.heap.size, 3, none⟩)) rfl rfl (by kernel_rfl) (by kernel_rfl) (by kernel_rfl) (fun _ _ _ h => h) (Or.inl ⟨by kernel_rfl, by intro w hSw; go_simp⟩) hs ?_
    simp only [Act.put, List.setIfInBounds_toArray, List.set_cons_zero, List.set_cons_succ]
    refine take_to (some 73) (i := 4) (v := V l) rfl rfl (by kernel_rfl) (by kernel_rfl) (by kernel_rfl) (fun _ _ _ h => h) (Or.inl ⟨by kernel_rfl, by intro w hSw; obtain ⟨c0, c1, c2, c3, c4⟩ := hSw.1.c5; go_simp⟩) hs ?_
    simp only [Act.put, List.setIfInBounds_toArray, List.set_cons_zero, List.set_cons_succ]
    refine take_to (some 74) (i := 5) (v := .pointer (some ⟨w.heap.size, 4, none⟩)) rfl rfl (by kernel_rfl) (by kernel_rfl) (by kernel_rfl) (fun _ _ _ h => h) (Or.inl ⟨by kernel_rfl, by intro w hSw; go_simp⟩) hs ?_
    simp only [Act.put, List.setIfInBounds_toArray, List.set_cons_zero, List.set_cons_succ]
    refine take_to (some 75) (i := 6) (v := V p) rfl rfl (by kernel_rfl) (by kernel_rfl) (by kernel_rfl) (fun _ _ _ h => h) (Or.inl ⟨by kernel_rfl, by intro w hSw; obtain ⟨c0, c1, c2, c3, c4⟩ := hSw.1.c5; go_simp⟩) hs ?_
    simp only [Act.put, List.setIfInBounds_toArray, List.set_cons_zero, List.set_cons_succ]
    refine take_to (some 76) (i := 7) (v := .pointer (some ⟨w.heap.size + 1, 1, none⟩)) rfl rfl (by kernel_rfl) (by kernel_rfl) (by kernel_rfl) (fun _ _ _ h => h) (Or.inl ⟨by kernel_rfl, by intro w hSw; go_simp⟩) hs ?_
    simp only [Act.put, List.setIfInBounds_toArray, List.set_cons_zero, List.set_cons_succ]
    refine take_to (some 77) (i := 8) (v := V i) rfl rfl (by kernel_rfl) (by kernel_rfl) (by kernel_rfl) (fun _ _ _ h => h) (Or.inl ⟨by kernel_rfl, by intro w hSw; obtain ⟨d0, d1, d2⟩ := hSw.2.1.c3; go_simp⟩) hs ?_
    simp only [Act.put, List.setIfInBounds_toArray, List.set_cons_zero, List.set_cons_succ]
    refine take_to (some 78) (i := 9) (v := .pointer (some ⟨w.heap.size + 1, 2, none⟩)) rfl rfl (by kernel_rfl) (by kernel_rfl) (by kernel_rfl) (fun _ _ _ h => h) (Or.inl ⟨by kernel_rfl, by intro w hSw; go_simp⟩) hs ?_
    simp only [Act.put, List.setIfInBounds_toArray, List.set_cons_zero, List.set_cons_succ]
    refine take_to (some 79) (i := 10) (v := V c) rfl rfl (by kernel_rfl) (by kernel_rfl) (by kernel_rfl) (fun _ _ _ h => h) (Or.inl ⟨by kernel_rfl, by intro w hSw; obtain ⟨d0, d1, d2⟩ := hSw.2.1.c3; go_simp⟩) hs ?_
    simp only [Act.put, List.setIfInBounds_toArray, List.set_cons_zero, List.set_cons_succ]
    refine take_to (some 80) (i := 11) (v := V now) rfl rfl (by kernel_rfl) (by kernel_rfl) (by kernel_rfl) (fun _ _ _ h => h) (Or.inl ⟨by kernel_rfl, by intro w hSw; go_simp⟩) hs ?_
    simp only [Act.put, List.setIfInBounds_toArray, List.set_cons_zero, List.set_cons_succ]
    refine take_to (some 81) (i := 12) (v := V n) rfl rfl (by kernel_rfl) (by kernel_rfl) (by kernel_rfl) (fun _ _ _ h => h) (Or.inl ⟨by kernel_rfl, by intro w hSw; go_simp⟩) hs ?_
    simp only [Act.put, List.setIfInBounds_toArray, List.set_cons_zero, List.set_cons_succ]
    refine wpAnyH_ready (rs := [2]) (by kernel_rfl) (by simp) ?_
    refine AllReadyH.cons rfl (fun K hK => ?_) AllReadyH.nil
    go_simp
    refine (kf _).mono ?_
    rintro e w4 ⟨rfl, uw4⟩
    replace hu := Up.trans hu uw4
    replace hs := sof hu
    refine hK.out _ _ hs (fun _ => ?_)
    clear hK K uw4
    refine wpAnyH_ready (rs := [13]) (by kernel_rfl) (by simp) ?_
    refine AllReadyH.cons rfl (fun K hK => ?_) AllReadyH.nil
    go_simp
    refine (kr _).mono ?_
    rintro e w5 ⟨rfl, uw5⟩
    replace hu := Up.trans hu uw5
    replace hs := sof hu
    refine hK.out _ _ hs (fun _ => ?_)
    clear hK K uw5
    refine wpAnyH_ready (rs := [14]) (by kernel_rfl) (by simp) ?_
    refine AllReadyH.cons rfl (fun K hK => ?_) AllReadyH.nil
    rw [if_pos (by kernel_rfl)]
    have b7 := b3.up hu
    obtain ⟨t7, ht7⟩ := id b7
    refine wp_store_row 29 (.tmp 8) (.tmp 71) rfl (w.heap.size + 1 + 1) #[V 0, V i, V c] rfl rfl t7 _ ht7 Try.infoLev6 rfl (by simp [Value.oneCell']) ?_
    have b8 := b7.setRow #[V 0, V i, V c]
    have v8 := Up.setRow hs.2.2.2 (k := w.heap.size + 1 + 1) (by omega) #[V 0, V i, V c]
    have hs8 : (fun w' => Box w' w.heap.size #[.int .i64 k, V g, V s, V l, V p] ∧ Box w' (w.heap.size + 1) #[V t, V i, V c] ∧ (∃ a b d : Nat, Box w' (w.heap.size + 1 + 1) #[V a, V b, V d]) ∧ Up w w') (w5.setRow (w.heap.size + 1 + 1) #[V 0, V i, V c]) := ⟨hs.1.otherRow (by omega) _, hs.2.1.otherRow (by omega) _, ⟨0, i, c, b8⟩, v8⟩
    replace hs := hs8
    refine hK.out _ _ hs (fun _ => ?_)
    clear hK K
    simp only [Act.put]
    refine take_to (some 9) (i := 15) (v := .bool false) rfl rfl (by kernel_rfl) (by kernel_rfl) (by kernel_rfl) (fun _ _ _ h => h) (Or.inl ⟨by kernel_rfl, by intro w hSw; go_simp⟩) hs ?_
    simp only [Act.put]
    refine take_to (some 10) (i := 16) (v := V R) rfl rfl (by kernel_rfl) (by kernel_rfl) (by kernel_rfl) (fun _ _ _ h => h) (Or.inl ⟨by kernel_rfl, by intro w hSw; go_simp⟩) hs ?_
    simp only [Act.put]
    refine wpAnyH_done (by kernel_rfl) ?_ _
    clear hs hs0 hs8 sof
    go_wp2
    obtain ⟨d0, d1, d2⟩ := b8.c3
    generalize World.setRow _ _ _ = w8 at *
    exact bodyPost_ret (v := .tuple #[Lv 0 i c, .bool false, V R]) (by simp [results, Try.results26, go_sem, d0, d1, d2]) rfl ⟨rfl, v8⟩
  · clear kf kr hform
    obtain ⟨d0, d1, d2⟩ := b3.c3
    have df := b3.frozen
    have dz := b3.lt
    go_wp2
    have b4 := b3.set3 (x := V 0) (y := V y) (z := V z)
    have v4 := Up.set3 v1 (k := w.heap.size + 1 + 1) (by omega) (V 0) (V y) (V z)
    clear d0 d1 d2 df
    obtain ⟨d0, d1, d2⟩ := b4.c3
    generalize World.setCell _ _ _ = w4 at *
    exact bodyPost_ret (v := .tuple #[Lv 0 y z, .bool true, .int .u64 0]) (by simp [results, Try.results26, go_sem, d0, d1, d2]) rfl ⟨rfl, v4⟩

theorem radmit_call (P : Pol) (v : Lev) (now n : Nat) (hP : P.Ok) (hv : v.Ok) (hw : N64 now) (hn : N64 n) (w : World) :
    Calls Try.prog 26 #[PP P, LL v, V now, V n] w fun e w' => e = .returned (.tuple #[LL (pNew P v now n), .bool (pOk P v now n), V (pRetry P v now n)]) ∧ Up w w' := by
  have kv := rvalid_call P
  have kf := rform_call P v
  unfold pRetry
  cases h : pValid P
  · have hno : ¬ (P.F ∨ P.G) := of_decide_eq_false h
    rw [h] at kv
    have e1 : pNew P v now n = Lev0 := by unfold pNew; rw [if_neg (fun k => hno (Or.inl k)), if_neg (fun k => hno (Or.inr k))]
    have e2 : pOk P v now n = false := by unfold pOk; rw [if_neg (fun k => hno (Or.inl k)), if_neg (fun k => hno (Or.inr k))]
    have e3 : pRule P v now n = 18446744073709551615 := by unfold pRule; rw [if_neg (fun k => hno (Or.inl k)), if_neg (fun k => hno (Or.inr k))]
    rw [e1, e2, e3]
    exact radmit_none P.k P.g P.s P.l P.p v.t v.i v.c now n kv w
  · rw [h] at kv
    rcases is_k h with ⟨hF, hk⟩ | ⟨hG, hk⟩
    · have e1 : pNew P v now n = ⟨gTat P.g P.s v.t now n, 0, 0⟩ := if_pos hF
      have e2 : pOk P v now n = decide (GFits P.g P.s v.t now n) := if_pos hF
      have e3 : pRule P v now n = gRetry P.g P.s v.t now n := if_pos hF
      have e4 : pForm P v = ⟨v.t, 0, 0⟩ := if_pos hF
      rw [e4] at kf
      rw [e1, e2, e3]
      exact radmit_flow P.k P.g P.s P.l P.p v.t v.i v.c now n _ _ _ hk kv (radmit_any P.g P.s v.t now n hP.g hP.s hv.t hw hn) kf (rRetry_any P.g P.s v.t now n hP.g hP.s hv.t hw hn) (fun ho => if_neg (of_decide_eq_false ho)) w
    · have hF : ¬ P.F := fun k => f_not_g k hG
      have e1 : pNew P v now n = ⟨0, wIx P.l P.p v.i v.c now n, wCt P.l P.p v.i v.c now n⟩ := by unfold pNew; rw [if_neg hF, if_pos hG]
      have e2 : pOk P v now n = decide (WFits P.l P.p v.i v.c now n) := by unfold pOk; rw [if_neg hF, if_pos hG]
      have e3 : pRule P v now n = wRetry P.l P.p v.i v.c now n := by unfold pRule; rw [if_neg hF, if_pos hG]
      have e4 : pForm P v = ⟨0, v.i, v.c⟩ := by unfold pForm; rw [if_neg hF, if_pos hG]
      rw [e4] at kf
      rw [e1, e2, e3]
      exact radmit_grid P.k P.g P.s P.l P.p v.t v.i v.c now n _ _ _ _ hk kv (fun w => (rAdmit_any5 P.l P.p v.i v.c now n hP.l hw hn w).mono (fun e w' h => ⟨h.1, by first | exact h.2 | (rw [h.2]; exact Up.refl _)⟩)) kf
        (fun w => (rRetry_any5 P.l P.p v.i v.c now n hP.l hP.p hv.i hw hn w).mono (fun e w' h => ⟨h.1, by first | exact h.2 | (rw [h.2]; exact Up.refl _)⟩)) (fun ho => ⟨(if_neg (of_decide_eq_false ho)).symm, (if_neg (of_decide_eq_false ho)).symm⟩) w
end Go.Proofs.Ythpcjhihifhmgaa
