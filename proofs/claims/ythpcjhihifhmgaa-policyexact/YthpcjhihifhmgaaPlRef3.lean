/- policy: the reference's Admit. -/
import Derived.Test.YthpcjhihifhmgaaPlRef2
set_option linter.unusedVariables false
namespace Go.Proofs.Ythpcjhihifhmgaa
open Go Go.RowKit

theorem Try.infoLev6 : (Try.prog.info? 29).map (·.size) = some 3 := by kernel_rfl

set_option maxHeartbeats 1600000 in
theorem radmit_none (k : Int) (g s l p t i c now n : Nat) (kv : ∀ w, Calls Try.prog 24 #[Pv k g s l p] w fun e w' => e = .returned (.bool false) ∧ Up w w') (w : World) :
    Calls Try.prog 26 #[Pv k g s l p, Lv t i c, V now, V n] w fun e w' => e = .returned (.tuple #[.agg #[Z, Z, Z], .bool false, .int .u64 18446744073709551615]) ∧ Up w w' := by
  go_enter Try.func26, Try.ntmps26
  go_wp2_with fail
  refine (kv _).mono ?_
  rintro e w1 ⟨rfl, u1⟩
  have b3 : Box w1 (w.heap.size + 1 + 1) #[Z, Z, Z] := (Box.newAt (by simp)).up u1
  have v1 := (up3 w _ _ _).trans u1
  clear u1
  obtain ⟨d0, d1, d2⟩ := b3.c3
  have df := b3.frozen
  have dz := b3.lt
  go_wp2
  have b4 := b3.set3 (x := Z) (y := Z) (z := Z)
  have v4 := Up.set3 v1 (k := w.heap.size + 1 + 1) (by omega) Z Z Z
  clear d0 d1 d2 df
  obtain ⟨d0, d1, d2⟩ := b4.c3
  generalize World.setCell _ _ _ = w4 at *
  exact bodyPost_ret (v := .tuple #[.agg #[Z, Z, Z], .bool false, .int .u64 18446744073709551615]) (by simp [results, Try.results26, go_sem, d0, d1, d2]) rfl ⟨rfl, v4⟩

set_option maxHeartbeats 3200000 in
theorem radmit_flow (k : Int) (g s l p t i c now n x R : Nat) (o : Bool) (hk : k = 1) (kv : ∀ w, Calls Try.prog 24 #[Pv k g s l p] w fun e w' => e = .returned (.bool true) ∧ Up w w')
    (ka : ∀ w, Calls Try.prog 37 #[V g, V s, V t, V now, V n] w fun e w' => e = .returned (.tuple #[V x, .bool o]) ∧ Up w w')
    (kf : ∀ w, Calls Try.prog 36 #[Pv k g s l p, Lv t i c] w fun e w' => e = .returned (Lv t 0 0) ∧ Up w w')
    (kr : ∀ w, Calls Try.prog 38 #[V g, V s, V t, V now, V n] w fun e w' => e = .returned (V R) ∧ Up w w')
    (hform : o = false → x = t) (w : World) :
    Calls Try.prog 26 #[Pv k g s l p, Lv t i c, V now, V n] w fun e w' => e = .returned (.tuple #[Lv x 0 0, .bool o, V (if o then 0 else R)]) ∧ Up w w' := by
  subst hk
  go_enter Try.func26, Try.ntmps26
  go_wp2_with fail
  refine (kv _).mono ?_
  rintro e w1 ⟨rfl, u1⟩
  have b0 : Box w1 w.heap.size #[.int .i64 1, V g, V s, V l, V p] := (((Box.new _ _ _).alloc _).alloc _).up u1
  have b1 : Box w1 (w.heap.size + 1) #[V t, V i, V c] := ((Box.newAt (by simp)).alloc _).up u1
  have b3 : Box w1 (w.heap.size + 1 + 1) #[Z, Z, Z] := (Box.newAt (by simp)).up u1
  have v1 := (up3 w _ _ _).trans u1
  clear u1 kv
  obtain ⟨c0, c1, c2, c3, c4⟩ := b0.c5
  obtain ⟨d0, d1, d2⟩ := b1.c3
  go_wp2_with fail
  refine (ka _).mono ?_
  rintro e w2 ⟨rfl, u2⟩
  replace b0 := b0.up u2
  replace b1 := b1.up u2
  replace b3 := b3.up u2
  replace v1 := v1.trans u2
  clear u2 ka c0 c1 c2 c3 c4 d0 d1 d2 w1
  cases o
  · obtain ⟨rfl⟩ := hform rfl
    clear hform
    go_wp2_with fail
    have sof : ∀ {w' : World}, Up w2 w' → Box w' w.heap.size #[.int .i64 1, V g, V s, V l, V p] ∧ Box w' (w.heap.size + 1) #[V t, V i, V c] ∧ (∃ a b d : Nat, Box w' (w.heap.size + 1 + 1) #[V a, V b, V d]) ∧ Up w w' := fun u => ⟨b0.up u, b1.up u, ⟨0, 0, 0, b3.up u⟩, v1.trans u⟩
    have hu := Up.drew w2
    have hs := sof hu
    refine wp_region_held_drew (S := fun w' => Box w' w.heap.size #[.int .i64 1, V g, V s, V l, V p] ∧ Box w' (w.heap.size + 1) #[V t, V i, V c] ∧ (∃ a b d : Nat, Box w' (w.heap.size + 1 + 1) #[V a, V b, V d]) ∧ Up w w') (by kernel_rfl) hs (fun hs0 => ?_)
    refine take_to (some 38) (i := 0) (v := Pv 1 g s l p) rfl rfl (by kernel_rfl) (by kernel_rfl) (by kernel_rfl) (fun _ _ _ h => h) (Or.inl ⟨by kernel_rfl, by intro w hSw; obtain ⟨c0, c1, c2, c3, c4⟩ := hSw.1.c5; go_simp⟩) hs ?_
    simp only [Act.put, List.setIfInBounds_toArray, List.set_cons_zero, List.set_cons_succ]
    refine take_to (some 39) (i := 1) (v := Lv t i c) rfl rfl (by kernel_rfl) (by kernel_rfl) (by kernel_rfl) (fun _ _ _ h => h) (Or.inl ⟨by kernel_rfl, by intro w hSw; obtain ⟨d0, d1, d2⟩ := hSw.2.1.c3; go_simp⟩) hs ?_
    simp only [Act.put, List.setIfInBounds_toArray, List.set_cons_zero, List.set_cons_succ]
    refine take_to (some 41) (i := 3) (v := .pointer (some ⟨w.heap.size, 1, none⟩)) rfl rfl (by kernel_rfl) (by kernel_rfl) (by kernel_rfl) (fun _ _ _ h => h) (Or.inl ⟨by kernel_rfl, by intro w hSw; go_simp⟩) hs ?_
    simp only [Act.put, List.setIfInBounds_toArray, List.set_cons_zero, List.set_cons_succ]
    refine take_to (some 42) (i := 4) (v := V g) rfl rfl (by kernel_rfl) (by kernel_rfl) (by kernel_rfl) (fun _ _ _ h => h) (Or.inl ⟨by kernel_rfl, by intro w hSw; obtain ⟨c0, c1, c2, c3, c4⟩ := hSw.1.c5; go_simp⟩) hs ?_
    simp only [Act.put, List.setIfInBounds_toArray, List.set_cons_zero, List.set_cons_succ]
    refine take_to (some 43) (i := 5) (v := .pointer (some ⟨w.heap.size, 2, none⟩)) rfl rfl (by kernel_rfl) (by kernel_rfl) (by kernel_rfl) (fun _ _ _ h => h) (Or.inl ⟨by kernel_rfl, by intro w hSw; go_simp⟩) hs ?_
    simp only [Act.put, List.setIfInBounds_toArray, List.set_cons_zero, List.set_cons_succ]
    refine take_to (some 44) (i := 6) (v := V s) rfl rfl (by kernel_rfl) (by kernel_rfl) (by kernel_rfl) (fun _ _ _ h => h) (Or.inl ⟨by kernel_rfl, by intro w hSw; obtain ⟨c0, c1, c2, c3, c4⟩ := hSw.1.c5; go_simp⟩) hs ?_
    simp only [Act.put, List.setIfInBounds_toArray, List.set_cons_zero, List.set_cons_succ]
    refine take_to (some 45) (i := 7) (v := .pointer (some ⟨w.heap.size + 1, 0, none⟩)) rfl rfl (by kernel_rfl) (by kernel_rfl) (by kernel_rfl) (fun _ _ _ h => h) (Or.inl ⟨by kernel_rfl, by intro w hSw; go_simp⟩) hs ?_
    simp only [Act.put, List.setIfInBounds_toArray, List.set_cons_zero, List.set_cons_succ]
    refine take_to (some 46) (i := 8) (v := V t) rfl rfl (by kernel_rfl) (by kernel_rfl) (by kernel_rfl) (fun _ _ _ h => h) (Or.inl ⟨by kernel_rfl, by intro w hSw; obtain ⟨d0, d1, d2⟩ := hSw.2.1.c3; go_simp⟩) hs ?_
    simp only [Act.put, List.setIfInBounds_toArray, List.set_cons_zero, List.set_cons_succ]
    refine take_to (some 47) (i := 9) (v := V now) rfl rfl (by kernel_rfl) (by kernel_rfl) (by kernel_rfl) (fun _ _ _ h => h) (Or.inl ⟨by kernel_rfl, by intro w hSw; go_simp⟩) hs ?_
    simp only [Act.put, List.setIfInBounds_toArray, List.set_cons_zero, List.set_cons_succ]
    refine take_to (some 48) (i := 10) (v := V n) rfl rfl (by kernel_rfl) (by kernel_rfl) (by kernel_rfl) (fun _ _ _ h => h) (Or.inl ⟨by kernel_rfl, by intro w hSw; go_simp⟩) hs ?_
    simp only [Act.put, List.setIfInBounds_toArray, List.set_cons_zero, List.set_cons_succ]
    refine wpAnyH_ready (rs := [2]) (by kernel_rfl) (by simp) ?_
    refine AllReadyH.cons rfl (fun K hK => ?_) AllReadyH.nil
    go_simp
    refine (kf _).mono ?_
    rintro e w4 ⟨rfl, uw4⟩
    replace hu := Up.trans hu uw4
    replace hs := sof hu
    refine hK.out _ _ hs (fun _ => ?_)
    clear hK K uw4
    refine wpAnyH_ready (rs := [11]) (by kernel_rfl) (by simp) ?_
    refine AllReadyH.cons rfl (fun K hK => ?_) AllReadyH.nil
    go_simp
    refine (kr _).mono ?_
    rintro e w5 ⟨rfl, uw5⟩
    replace hu := Up.trans hu uw5
    replace hs := sof hu
    refine hK.out _ _ hs (fun _ => ?_)
    clear hK K uw5
    refine wpAnyH_ready (rs := [12]) (by kernel_rfl) (by simp) ?_
    refine AllReadyH.cons rfl (fun K hK => ?_) AllReadyH.nil
    rw [if_pos (by kernel_rfl)]
    have b7 := b3.up hu
    obtain ⟨t7, ht7⟩ := id b7
    refine wp_store_row 29 (.tmp 8) (.tmp 40) rfl (w.heap.size + 1 + 1) #[V t, V 0, V 0] rfl rfl t7 _ ht7 Try.infoLev6 rfl (by simp [Value.oneCell']) ?_
    have b8 := b7.setRow #[V t, V 0, V 0]
    have v8 := Up.setRow hs.2.2.2 (k := w.heap.size + 1 + 1) (by omega) #[V t, V 0, V 0]
    have hs8 : (fun w' => Box w' w.heap.size #[.int .i64 1, V g, V s, V l, V p] ∧ Box w' (w.heap.size + 1) #[V t, V i, V c] ∧ (∃ a b d : Nat, Box w' (w.heap.size + 1 + 1) #[V a, V b, V d]) ∧ Up w w') (w5.setRow (w.heap.size + 1 + 1) #[V t, V 0, V 0]) := ⟨hs.1.otherRow (by omega) _, hs.2.1.otherRow (by omega) _, ⟨t, 0, 0, b8⟩, v8⟩
    replace hs := hs8
    refine hK.out _ _ hs (fun _ => ?_)
    clear hK K
    simp only [Act.put]
    refine take_to (some 9) (i := 13) (v := .bool false) rfl rfl (by kernel_rfl) (by kernel_rfl) (by kernel_rfl) (fun _ _ _ h => h) (Or.inl ⟨by kernel_rfl, by intro w hSw; go_simp⟩) hs ?_
    simp only [Act.put]
    refine take_to (some 10) (i := 14) (v := V R) rfl rfl (by kernel_rfl) (by kernel_rfl) (by kernel_rfl) (fun _ _ _ h => h) (Or.inl ⟨by kernel_rfl, by intro w hSw; go_simp⟩) hs ?_
    simp only [Act.put]
    refine wpAnyH_done (by kernel_rfl) ?_ _
    clear hs hs0 hs8 sof
    go_wp2
    obtain ⟨d0, d1, d2⟩ := b8.c3
    generalize World.setRow _ _ _ = w8 at *
    exact bodyPost_ret (v := .tuple #[Lv t 0 0, .bool false, V R]) (by simp [results, Try.results26, go_sem, d0, d1, d2]) rfl ⟨rfl, v8⟩
  · clear kf kr hform
    obtain ⟨d0, d1, d2⟩ := b3.c3
    have df := b3.frozen
    have dz := b3.lt
    go_wp2
    have b4 := b3.set3 (x := V x) (y := V 0) (z := V 0)
    have v4 := Up.set3 v1 (k := w.heap.size + 1 + 1) (by omega) (V x) (V 0) (V 0)
    clear d0 d1 d2 df
    obtain ⟨d0, d1, d2⟩ := b4.c3
    generalize World.setCell _ _ _ = w4 at *
    exact bodyPost_ret (v := .tuple #[Lv x 0 0, .bool true, .int .u64 0]) (by simp [results, Try.results26, go_sem, d0, d1, d2]) rfl ⟨rfl, v4⟩
end Go.Proofs.Ythpcjhihifhmgaa
