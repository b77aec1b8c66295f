/- policy: the face's Admit, over whatever rule the policy goes by. -/
import Derived.Test.YthpcjhihifhmgaaPlFn2
import Derived.Test.YthpcjhihifhmgaaPlRule
set_option linter.unusedVariables false
namespace Go.Proofs.Ythpcjhihifhmgaa
open Go Go.RowKit

theorem Try.infoLevel : (Try.prog.info? 29).map (·.size) = some 3 := by kernel_rfl

set_option maxHeartbeats 1600000 in
theorem Admit_none (k : Int) (g s l p t i c now n : Nat)
    (kr : ∀ w, Calls Try.prog 30 #[Pv k g s l p] w fun e w' => e = .returned (.tuple #[Rule0, .bool false]) ∧ Up w w') (w : World) :
    Calls Try.prog 10 #[Pv k g s l p, Lv t i c, V now, V n] w fun e w' => e = .returned (.tuple #[.agg #[Z, Z, Z], .bool false, .int .u64 18446744073709551615]) ∧ Up w w' := by
  go_enter Try.func10, Try.ntmps10
  go_wp2_with fail
  refine (kr _).mono ?_
  rintro e w1 ⟨rfl, u1⟩
  have b3 : Box w1 (w.heap.size + 1 + 1) #[Z, Z, Z] := (Box.newAt (by simp)).up u1
  have v1 := (up3 w _ _ _).trans u1
  clear u1
  obtain ⟨d0, d1, d2⟩ := b3.c3
  have df := b3.frozen
  have dz := b3.lt
  go_wp2
  have b4 := (b3.set3 (x := Z) (y := Z) (z := Z)).alloc (Obj.cells #[.nilFunc, .nilFunc, .nilFunc, .nilFunc, .nilFunc, .nilFunc] 56)
  have v4 := (Up.set3 v1 (k := w.heap.size + 1 + 1) (by omega) Z Z Z).trans (Up.alloc _ (Obj.cells #[.nilFunc, .nilFunc, .nilFunc, .nilFunc, .nilFunc, .nilFunc] 56))
  clear d0 d1 d2 df
  obtain ⟨d0, d1, d2⟩ := b4.c3
  generalize World.alloc _ _ = w4 at *
  exact bodyPost_ret (v := .tuple #[.agg #[Z, Z, Z], .bool false, .int .u64 18446744073709551615]) (by simp [results, Try.results10, go_sem, d0, d1, d2]) rfl ⟨rfl, v4⟩

set_option maxHeartbeats 3200000 in
theorem Admit_kind (k : Int) (g s l p f0 f1 f2 f3 f4 f5 t i c now n x y z R : Nat) (o : Bool)
    (kr : ∀ w, Calls Try.prog 30 #[Pv k g s l p] w fun e w' => e = .returned (.tuple #[.agg #[fnV f0, fnV f1, fnV f2, fnV f3, fnV f4, fnV f5], .bool true]) ∧ Up w w')
    (hcf2 : ∀ (a : Array Value) (w : World), (callFunc f2 a).run Try.prog w = .ok (.enter f2 a) w) (hcf3 : ∀ (a : Array Value) (w : World), (callFunc f3 a).run Try.prog w = .ok (.enter f3 a) w)
    (k2 : ∀ w, Calls Try.prog f2 #[Pv k g s l p, Lv t i c, V now, V n] w fun e w' => e = .returned (.tuple #[Lv x y z, .bool o]) ∧ Up w w')
    (k3 : ∀ w, Calls Try.prog f3 #[Pv k g s l p, Lv t i c, V now, V n] w fun e w' => e = .returned (V R) ∧ Up w w') (w : World) :
    Calls Try.prog 10 #[Pv k g s l p, Lv t i c, V now, V n] w fun e w' => e = .returned (.tuple #[Lv x y z, .bool o, V (if o then 0 else R)]) ∧ Up w w' := by
  go_enter Try.func10, Try.ntmps10
  go_wp2_with fail
  refine (kr _).mono ?_
  rintro e w1 ⟨rfl, u1⟩
  have b0 : Box w1 w.heap.size #[.int .i64 k, V g, V s, V l, V p] := (((Box.new _ _ _).alloc _).alloc _).up u1
  have b1 : Box w1 (w.heap.size + 1) #[V t, V i, V c] := ((Box.newAt (by simp)).alloc _).up u1
  have b3 : Box w1 (w.heap.size + 1 + 1) #[Z, Z, Z] := (Box.newAt (by simp)).up u1
  have v1 := (up3 w _ _ _).trans u1
  clear u1
  generalize hB : w.heap.size = B at *
  obtain ⟨c0, c1, c2, c3, c4⟩ := b0.c5
  obtain ⟨d0, d1, d2⟩ := b1.c3
  have z0 := b0.lt
  have z1 := b1.lt
  have z3 := b3.lt
  go_wp2_with fail
  refine (k2 _).mono ?_
  rintro e w2 ⟨rfl, u2⟩
  have bR : Box w2 w1.heap.size #[fnV f0, fnV f1, fnV f2, fnV f3, fnV f4, fnV f5] := (Box.new _ _ _).up u2
  have v2 := (Up.alloc _ _).trans u2
  generalize hR : w1.heap.size = G at *
  replace b0 := b0.up v2
  replace b1 := b1.up v2
  replace b3 := b3.up v2
  replace v1 := v1.trans v2
  clear u2 v2 c0 c1 c2 c3 c4 d0 d1 d2 kr k2
  cases o
  · go_wp2_with fail
    have bM : Box (w2.alloc (Obj.cells #[V x, V y, V z] 29)) w2.heap.size #[V x, V y, V z] := Box.new _ _ _
    have v2 := Up.alloc w2 (Obj.cells #[V x, V y, V z] 29)
    have hZ : B + 1 + 1 < w2.heap.size := b3.lt
    generalize w2.alloc (Obj.cells #[V x, V y, V z] 29) = w3 at *
    generalize w2.heap.size = M at *
    replace b0 := b0.up v2
    replace b1 := b1.up v2
    replace b3 := b3.up v2
    replace bR := bR.up v2
    replace v1 := v1.trans v2
    clear v2 w1 hR
    have sof : ∀ {w' : World}, Up w3 w' → Box w' M #[V x, V y, V z] ∧ Box w' G #[fnV f0, fnV f1, fnV f2, fnV f3, fnV f4, fnV f5] ∧ Box w' B #[.int .i64 k, V g, V s, V l, V p] ∧ Box w' (B + 1) #[V t, V i, V c] ∧ (∃ a b c : Nat, Box w' (B + 1 + 1) #[V a, V b, V c]) ∧ Up w w' := fun u => ⟨bM.up u, bR.up u, b0.up u, b1.up u, ⟨0, 0, 0, b3.up u⟩, v1.trans u⟩
    have hs := sof (Up.drew w3)
    refine wp_region_held_drew (S := fun w' => Box w' M #[V x, V y, V z] ∧ Box w' G #[fnV f0, fnV f1, fnV f2, fnV f3, fnV f4, fnV f5] ∧ Box w' B #[.int .i64 k, V g, V s, V l, V p] ∧ Box w' (B + 1) #[V t, V i, V c] ∧ (∃ a b c : Nat, Box w' (B + 1 + 1) #[V a, V b, V c]) ∧ Up w w') (by kernel_rfl) hs (fun hs0 => ?_)
    refine wpAnyH_take (i := 0) (v := Lv x y z) rfl (by kernel_rfl) (by kernel_rfl) (by kernel_rfl) (fun _ _ _ h => h) (Or.inl ⟨by kernel_rfl, by intro w hSw; obtain ⟨c0, c1, c2⟩ := hSw.1.c3; go_simp⟩) hs ?_
    simp only [Act.put]
    refine wpAnyH_take (i := 1) (v := .pointer (some ⟨G, 3, none⟩)) rfl (by kernel_rfl) (by kernel_rfl) (by kernel_rfl) (fun _ _ _ h => h) (Or.inl ⟨by kernel_rfl, by intro w hSw; go_simp⟩) hs ?_
    simp only [Act.put]
    refine wpAnyH_take (i := 2) (v := fnV f3) rfl (by kernel_rfl) (by kernel_rfl) (by kernel_rfl) (fun _ _ _ h => h) (Or.inl ⟨by kernel_rfl, by intro w hSw; obtain ⟨c0, c1, c2, c3, c4, c5⟩ := hSw.2.1.c6; go_simp⟩) hs ?_
    simp only [Act.put]
    refine wpAnyH_take (i := 3) (v := Pv k g s l p) rfl (by kernel_rfl) (by kernel_rfl) (by kernel_rfl) (fun _ _ _ h => h) (Or.inl ⟨by kernel_rfl, by intro w hSw; obtain ⟨c0, c1, c2, c3, c4⟩ := hSw.2.2.1.c5; go_simp⟩) hs ?_
    simp only [Act.put]
    refine wpAnyH_take (i := 4) (v := Lv t i c) rfl (by kernel_rfl) (by kernel_rfl) (by kernel_rfl) (fun _ _ _ h => h) (Or.inl ⟨by kernel_rfl, by intro w hSw; obtain ⟨c0, c1, c2⟩ := hSw.2.2.2.1.c3; go_simp⟩) hs ?_
    simp only [Act.put]
    refine wpAnyH_take (i := 5) (v := V now) rfl (by kernel_rfl) (by kernel_rfl) (by kernel_rfl) (fun _ _ _ h => h) (Or.inl ⟨by kernel_rfl, by intro w hSw; go_simp⟩) hs ?_
    simp only [Act.put]
    refine wpAnyH_take (i := 6) (v := V n) rfl (by kernel_rfl) (by kernel_rfl) (by kernel_rfl) (fun _ _ _ h => h) (Or.inl ⟨by kernel_rfl, by intro w hSw; go_simp⟩) hs ?_
    simp only [Act.put]
    refine wpAnyH_ready (rs := [7]) (by kernel_rfl) (by simp) ?_
    refine AllReadyH.cons rfl (fun K hK => ?_) AllReadyH.nil
    go_simp
    refine (k3 _).mono ?_
    rintro e w7 ⟨rfl, u7⟩
    have w37 := (Up.drew w3).trans u7
    replace hs := sof w37
    refine hK.out _ _ hs (fun _ => ?_)
    clear hK K
    refine wpAnyH_ready (rs := [8]) (by kernel_rfl) (by simp) ?_
    refine AllReadyH.cons rfl (fun K hK => ?_) AllReadyH.nil
    rw [if_pos (by kernel_rfl)]
    have b7 := b3.up w37
    obtain ⟨t7, ht7⟩ := id b7
    refine wp_store_row 29 (.tmp 8) (.tmp 35) rfl (B + 1 + 1) #[V x, V y, V z] rfl rfl t7 _ ht7 Try.infoLevel rfl (by simp [Value.oneCell']) ?_
    have b8 := b7.setRow #[V x, V y, V z]
    have v8 := Up.setRow hs.2.2.2.2.2 (k := B + 1 + 1) (by omega) #[V x, V y, V z]
    have hs8 : Box (w7.setRow (B + 1 + 1) #[V x, V y, V z]) M #[V x, V y, V z] ∧ Box (w7.setRow (B + 1 + 1) #[V x, V y, V z]) G #[fnV f0, fnV f1, fnV f2, fnV f3, fnV f4, fnV f5] ∧ Box (w7.setRow (B + 1 + 1) #[V x, V y, V z]) B #[.int .i64 k, V g, V s, V l, V p] ∧ Box (w7.setRow (B + 1 + 1) #[V x, V y, V z]) (B + 1) #[V t, V i, V c] ∧ (∃ a b c : Nat, Box (w7.setRow (B + 1 + 1) #[V x, V y, V z]) (B + 1 + 1) #[V a, V b, V c]) ∧ Up w (w7.setRow (B + 1 + 1) #[V x, V y, V z]) :=
      ⟨hs.1.otherRow (by omega) _, hs.2.1.otherRow (by omega) _, hs.2.2.1.otherRow (by omega) _, hs.2.2.2.1.otherRow (by omega) _, ⟨x, y, z, b8⟩, v8⟩
    refine hK.out _ _ hs8 (fun _ => ?_)
    clear hK K
    simp only [Act.put]
    refine wpAnyH_take (i := 9) (v := .bool false) rfl (by kernel_rfl) (by kernel_rfl) (by kernel_rfl) (fun _ _ _ h => h) (Or.inl ⟨by kernel_rfl, by intro w hSw; go_simp⟩) hs8 ?_
    simp only [Act.put]
    refine wpAnyH_take (i := 10) (v := V R) rfl (by kernel_rfl) (by kernel_rfl) (by kernel_rfl) (fun _ _ _ h => h) (Or.inl ⟨by kernel_rfl, by intro w hSw; go_simp⟩) hs8 ?_
    simp only [Act.put]
    refine wpAnyH_done (by kernel_rfl) ?_ _
    clear hs hs0 hs8 sof
    go_wp2
    obtain ⟨d0, d1, d2⟩ := b8.c3
    generalize World.setRow _ _ _ = w8 at *
    exact bodyPost_ret (v := .tuple #[Lv x y z, .bool false, V R]) (by simp [results, Try.results10, go_sem, d0, d1, d2]) rfl ⟨rfl, v8⟩
  · obtain ⟨d0, d1, d2⟩ := b3.c3
    have df := b3.frozen
    have dz := b3.lt
    go_wp2
    have b4 := (b3.set3 (x := V x) (y := V y) (z := V z)).alloc (Obj.cells #[V x, V y, V z] 29)
    have v4 := (Up.set3 v1 (k := B + 1 + 1) (by omega) (V x) (V y) (V z)).trans (Up.alloc _ (Obj.cells #[V x, V y, V z] 29))
    clear d0 d1 d2 df
    obtain ⟨d0, d1, d2⟩ := b4.c3
    generalize World.alloc _ _ = w4 at *
    exact bodyPost_ret (v := .tuple #[Lv x y z, .bool true, .int .u64 0]) (by simp [results, Try.results10, go_sem, d0, d1, d2]) rfl ⟨rfl, v4⟩
end Go.Proofs.Ythpcjhihifhmgaa
