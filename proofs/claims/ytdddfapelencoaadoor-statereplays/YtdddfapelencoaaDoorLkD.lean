/- Merged: PlRule, PlVal. -/
import Derived.Test.YtdddfapelencoaaDoorPlFn
import Derived.Test.YtdddfapelencoaaDoorBox
set_option linter.unusedVariables false
namespace Go.Proofs.YtdddfapelencoaaDoor
open Go Go.RowKit

theorem Tryd.infoRule : (Tryd.prog.info? 78).map (·.size) = some 6 := by kernel_rfl
theorem index_flow (w : World) : (Instr.index 86 Rules (.int .i64 1)).run Tryd.prog w = .ok RuleF w := by
  simp [Instr.index, run_underlying Tryd.underlying86, asIntOf, go_sem]
theorem index_grid (w : World) : (Instr.index 86 Rules (.int .i64 2)).run Tryd.prog w = .ok RuleG w := by
  simp [Instr.index, run_underlying Tryd.underlying86, asIntOf, go_sem]

theorem ruleOf_less (k : Int) (g s l p : Nat) (h : k < 1) (w : World) : Calls Tryd.prog 36 #[Pv k g s l p] w fun e w' => e = .returned (.tuple #[Rule0, .bool false]) ∧ Up w w' := by
  go_enter Tryd.func36, Tryd.ntmps36
  go_wp2
  exact bodyPost_ret (v := .tuple #[Rule0, .bool false]) (by simp [results, Tryd.results36, go_sem]) rfl ⟨rfl, up2 _ _ _⟩
theorem ruleOf_more (k : Int) (g s l p : Nat) (h : 2 < k) (w : World) : Calls Tryd.prog 36 #[Pv k g s l p] w fun e w' => e = .returned (.tuple #[Rule0, .bool false]) ∧ Up w w' := by
  have h1 : ¬ k < 1 := by omega
  go_enter Tryd.func36, Tryd.ntmps36
  go_wp2
  exact bodyPost_ret (v := .tuple #[Rule0, .bool false]) (by simp [results, Tryd.results36, go_sem]) rfl ⟨rfl, up2 _ _ _⟩
set_option maxRecDepth 20000 in
set_option maxHeartbeats 1600000 in
theorem ruleOf_kind (k : Int) (g s l p f0 f1 f2 f3 f4 f5 : Nat) (o : Bool) (d1 : ¬ k < 1) (d2 : ¬ 2 < k)
    (hix : ∀ w, (Instr.index 86 Rules (.int .i64 k)).run Tryd.prog w = .ok (.agg #[fnV f0, fnV f1, fnV f2, fnV f3, fnV f4, fnV f5]) w)
    (hcf : ∀ (a : Array Value) (w : World), (callFunc f0 a).run Tryd.prog w = .ok (.enter f0 a) w)
    (k1 : ∀ w, Calls Tryd.prog f0 #[Pv k g s l p] w fun e w' => e = .returned (.bool o) ∧ Up w w') (w : World) :
    Calls Tryd.prog 36 #[Pv k g s l p] w fun e w' => e = .returned (.tuple #[if o then .agg #[fnV f0, fnV f1, fnV f2, fnV f3, fnV f4, fnV f5] else Rule0, .bool o]) ∧ Up w w' := by
  have k0 := rules_any
  go_enter Tryd.func36, Tryd.ntmps36
  go_wp2_with fail
  have b0 : Box ((w.alloc (Obj.cells #[.int .i64 k, V g, V s, V l, V p] 35)).alloc (Obj.cells #[.nilFunc, .nilFunc, .nilFunc, .nilFunc, .nilFunc, .nilFunc] 78)) w.heap.size #[.int .i64 k, V g, V s, V l, V p] := (Box.new _ _ _).alloc _
  have b1 : Box ((w.alloc (Obj.cells #[.int .i64 k, V g, V s, V l, V p] 35)).alloc (Obj.cells #[.nilFunc, .nilFunc, .nilFunc, .nilFunc, .nilFunc, .nilFunc] 78)) (w.heap.size + 1) #[.nilFunc, .nilFunc, .nilFunc, .nilFunc, .nilFunc, .nilFunc] := Box.newAt (by simp)
  have v0 : Up w ((w.alloc (Obj.cells #[.int .i64 k, V g, V s, V l, V p] 35)).alloc (Obj.cells #[.nilFunc, .nilFunc, .nilFunc, .nilFunc, .nilFunc, .nilFunc] 78)) := up2 _ _ _
  have e0 : w.heap.size = w.heap.size := rfl
  generalize (w.alloc (Obj.cells #[.int .i64 k, V g, V s, V l, V p] 35)).alloc (Obj.cells #[.nilFunc, .nilFunc, .nilFunc, .nilFunc, .nilFunc, .nilFunc] 78) = w1 at *
  generalize hB : w.heap.size = B at *
  go_cut [4] (fun s4 wx => ∃ j, s4 = .pointer (some ⟨j, 0, none⟩) ∧ Hid (Box wx j #[fnV f0, fnV f1, fnV f2, fnV f3, fnV f4, fnV f5] ∧ w1.heap.size ≤ j ∧ Up w1 wx))
  case first =>
    have sof : ∀ {w' : World}, Up w1 w' → w'.cell? ⟨B, 0, none⟩ = some (.int .i64 k) ∧ Up w1 w' := fun u => ⟨(b0.up u).c5.1, u⟩
    refine wp_region_held_drew (S := (fun w' => w'.cell? ⟨B, 0, none⟩ = some (.int .i64 k) ∧ Up w1 w')) (by kernel_rfl) (sof (Up.drew _)) (fun hs => ?_)
    refine wpAnyH_take (i := 1) (v := .pointer (some ⟨B, 0, none⟩)) rfl (by kernel_rfl) (by kernel_rfl) (by kernel_rfl) (fun _ _ _ h => h) (Or.inl ⟨by kernel_rfl, by intro w hSw; (try dsimp only at hSw); go_simp⟩) hs ?_
    simp only [Act.put]
    refine wpAnyH_take (i := 2) (v := .int .i64 k) rfl (by kernel_rfl) (by kernel_rfl) (by kernel_rfl) (fun _ _ _ h => h) (Or.inl ⟨by kernel_rfl, by intro w hSw; (try dsimp only at hSw); go_simp⟩) hs ?_
    simp only [Act.put]
    refine wpAnyH_ready (rs := [0, 4]) (by kernel_rfl) (by simp) ?_
    refine AllReadyH.cons rfl (fun K hK => ?_) (AllReadyH.cons rfl (fun K hK => ?_) AllReadyH.nil)
    · go_simp
      refine (k0 _).mono ?_
      rintro e w4 ⟨rfl, u4⟩
      replace hs := sof (hs.2.trans u4)
      refine hK.out _ _ hs (fun _ => ?_)
      clear hK K
      refine wpAnyH_take (i := 3) (v := .agg #[fnV f0, fnV f1, fnV f2, fnV f3, fnV f4, fnV f5]) rfl (by kernel_rfl) (by kernel_rfl) (by kernel_rfl) (fun _ _ _ h => h) (Or.inl ⟨by kernel_rfl, by intro w hSw; (try dsimp only at hSw); go_simp⟩) hs ?_
      simp only [Act.put]
      refine wpAnyH_ready (rs := [4]) (by kernel_rfl) (by simp) ?_
      refine AllReadyH.cons rfl (fun K hK => ?_) AllReadyH.nil
      go_simp
      replace hs := sof (hs.2.trans (Up.alloc w4 (Obj.cells #[.nilFunc, .nilFunc, .nilFunc, .nilFunc, .nilFunc, .nilFunc] 78)))
      refine hK.out _ _ hs (fun _ => ?_)
      clear hK K
      have hb : Box (w4.alloc (Obj.cells #[.nilFunc, .nilFunc, .nilFunc, .nilFunc, .nilFunc, .nilFunc] 78)) w4.heap.size #[.nilFunc, .nilFunc, .nilFunc, .nilFunc, .nilFunc, .nilFunc] := Box.new _ _ _
      have hz : w1.heap.size ≤ w4.heap.size := u4.size
      generalize w4.alloc (Obj.cells #[.nilFunc, .nilFunc, .nilFunc, .nilFunc, .nilFunc, .nilFunc] 78) = w5 at *
      generalize w4.heap.size = j at *
      refine wpAnyH_ready (rs := [5]) (by kernel_rfl) (by simp) ?_
      refine AllReadyH.cons rfl (fun K hK => ?_) AllReadyH.nil
      rw [if_pos (by kernel_rfl)]
      obtain ⟨t, ht⟩ := id hb
      refine wp_store_row 78 (.tmp 4) (.tmp 17) rfl j #[fnV f0, fnV f1, fnV f2, fnV f3, fnV f4, fnV f5] rfl rfl t _ ht Tryd.infoRule rfl (by simp [Value.oneCell']) ?_
      have hu := Up.setRow hs.2 hz #[fnV f0, fnV f1, fnV f2, fnV f3, fnV f4, fnV f5]
      refine hK.out _ _ (sof hu) (fun _ => ?_)
      clear hK K
      refine wpAnyH_done (by kernel_rfl) ?_ _
      simp only [Act.put]
      go_wp2_with fail
      go_meet
      case rel => exact ⟨_, rfl, hb.setRow _, hz, hu⟩
    · go_simp
      replace hs := sof (up_al (Up.refl w1) (o := Obj.cells #[.nilFunc, .nilFunc, .nilFunc, .nilFunc, .nilFunc, .nilFunc] 78))
      refine hK.out _ _ hs (fun _ => ?_)
      clear hK K
      refine wpAnyH_ready (rs := [0]) (by kernel_rfl) (by simp) ?_
      refine AllReadyH.cons rfl (fun K hK => ?_) AllReadyH.nil
      go_simp
      refine (k0 _).mono ?_
      rintro e w5 ⟨rfl, u4⟩
      have hb := box_al u4
      replace hs := sof (hs.2.trans u4)
      refine hK.out _ _ hs (fun _ => ?_)
      clear hK K
      refine wpAnyH_take (i := 3) (v := .agg #[fnV f0, fnV f1, fnV f2, fnV f3, fnV f4, fnV f5]) rfl (by kernel_rfl) (by kernel_rfl) (by kernel_rfl) (fun _ _ _ h => h) (Or.inl ⟨by kernel_rfl, by intro w hSw; (try dsimp only at hSw); go_simp⟩) hs ?_
      simp only [Act.put]
      refine wpAnyH_ready (rs := [5]) (by kernel_rfl) (by simp) ?_
      refine AllReadyH.cons rfl (fun K hK => ?_) AllReadyH.nil
      rw [if_pos (by kernel_rfl)]
      obtain ⟨t, ht⟩ := id hb
      refine wp_store_row 78 (.tmp 4) (.tmp 17) rfl w1.heap.size #[fnV f0, fnV f1, fnV f2, fnV f3, fnV f4, fnV f5] rfl rfl t _ ht Tryd.infoRule rfl (by simp [Value.oneCell']) ?_
      have hu := Up.setRow hs.2 (Nat.le_refl _) #[fnV f0, fnV f1, fnV f2, fnV f3, fnV f4, fnV f5]
      refine hK.out _ _ (sof hu) (fun _ => ?_)
      clear hK K
      refine wpAnyH_done (by kernel_rfl) ?_ _
      simp only [Act.put]
      go_wp2_with fail
      go_meet
      case rel => exact ⟨_, rfl, hb.setRow _, Nat.le_refl _, hu⟩
  case rest =>
    obtain ⟨j, rfl, hj⟩ := hcut
    obtain ⟨hb, hz, hu⟩ := hj.out
    have vz := v0.size
    have bz := b1.lt
    replace b0 := b0.up hu
    replace b1 := b1.up hu
    have vu := v0.trans hu
    obtain ⟨c0, c1, c2, c3, c4⟩ := b0.c5
    obtain ⟨q0, q1, q2, q3, q4, q5⟩ := hb.c6
    clear hj hix k0
    go_wp2_with fail
    refine (k1 _).mono ?_
    rintro e w6 ⟨rfl, u6⟩
    replace hb := hb.up u6
    replace b1 := b1.up u6
    replace vu := vu.trans u6
    clear q0 q1 q2 q3 q4 q5 c0 c1 c2 c3 c4 b0 k1
    obtain ⟨c0, c1, c2, c3, c4, c5⟩ := b1.c6
    have cf := b1.frozen
    obtain ⟨q0, q1, q2, q3, q4, q5⟩ := hb.c6
    have hne : j ≠ B + 1 := by omega
    cases o
    · go_wp2_with (refine wpList_store_row rfl 78 (.tmp 2) (.tmp 23) rfl (B + 1) _ rfl rfl _ _ b1.choose_spec Tryd.infoRule rfl (by simp [Value.oneCell']) ?_)
      have b2 := b1.setRow #[.nilFunc, .nilFunc, .nilFunc, .nilFunc, .nilFunc, .nilFunc]
      have v2 := Up.setRow vu (k := B + 1) (by omega) #[.nilFunc, .nilFunc, .nilFunc, .nilFunc, .nilFunc, .nilFunc]
      clear c0 c1 c2 c3 c4 c5 cf q0 q1 q2 q3 q4 q5
      obtain ⟨c0, c1, c2, c3, c4, c5⟩ := b2.c6
      generalize World.setRow _ _ _ = w7 at *
      exact bodyPost_ret (v := .tuple #[.agg #[.nilFunc, .nilFunc, .nilFunc, .nilFunc, .nilFunc, .nilFunc], .bool false]) (by simp [results, Tryd.results36, go_sem, c0, c1, c2, c3, c4, c5]) rfl ⟨rfl, v2⟩
    · go_wp2_with (refine wpList_store_row rfl 78 (.tmp 2) (.tmp 24) rfl (B + 1) #[fnV f0, fnV f1, fnV f2, fnV f3, fnV f4, fnV f5] rfl rfl _ _ b1.choose_spec Tryd.infoRule rfl (by simp [Value.oneCell']) ?_)
      have b2 := b1.setRow #[fnV f0, fnV f1, fnV f2, fnV f3, fnV f4, fnV f5]
      have v2 := Up.setRow vu (k := B + 1) (by omega) #[fnV f0, fnV f1, fnV f2, fnV f3, fnV f4, fnV f5]
      clear c0 c1 c2 c3 c4 c5 cf q0 q1 q2 q3 q4 q5
      obtain ⟨c0, c1, c2, c3, c4, c5⟩ := b2.c6
      generalize World.setRow _ _ _ = w7 at *
      exact bodyPost_ret (v := .tuple #[.agg #[fnV f0, fnV f1, fnV f2, fnV f3, fnV f4, fnV f5], .bool true]) (by simp [results, Tryd.results36, go_sem, c0, c1, c2, c3, c4, c5]) rfl ⟨rfl, v2⟩

theorem ruleOf_flow (g s l p : Nat) (o : Bool) (h : decide (1 ≤ g ∧ l = 0 ∧ p = 0) = o) (w : World) :
    Calls Tryd.prog 36 #[Pv 1 g s l p] w fun e w' => e = .returned (.tuple #[if o then RuleF else Rule0, .bool o]) ∧ Up w w' :=
  ruleOf_kind 1 g s l p _ _ _ _ _ _ o (by omega) (by omega) index_flow (fun _ _ => by simp [go_sem]) (fun w => by have k := flowValid_any 1 g s l p w; rw [h] at k; exact k) w
theorem ruleOf_grid (g s l p : Nat) (o : Bool) (h : decide (1 ≤ p ∧ g = 0 ∧ s = 0) = o) (w : World) :
    Calls Tryd.prog 36 #[Pv 2 g s l p] w fun e w' => e = .returned (.tuple #[if o then RuleG else Rule0, .bool o]) ∧ Up w w' :=
  ruleOf_kind 2 g s l p _ _ _ _ _ _ o (by omega) (by omega) index_grid (fun _ _ => by simp [go_sem]) (fun w => by have k := gridValid_any 2 g s l p w; rw [h] at k; exact k) w
end Go.Proofs.YtdddfapelencoaaDoor

set_option linter.unusedVariables false
namespace Go.Proofs.YtdddfapelencoaaDoor
open Go Go.RowKit

set_option maxHeartbeats 1600000 in
theorem Valid_kind (k : Int) (g s l p f0 f1 f2 f3 f4 f5 : Nat) (R : Value) (o : Bool) (hR : R = (if o then .agg #[fnV f0, fnV f1, fnV f2, fnV f3, fnV f4, fnV f5] else Rule0))
    (kr : ∀ w, Calls Tryd.prog 36 #[Pv k g s l p] w fun e w' => e = .returned (.tuple #[R, .bool o]) ∧ Up w w') (w : World) :
    Calls Tryd.prog 62 #[Pv k g s l p] w fun e w' => e = .returned (.bool o) ∧ Up w w' := by
  cases o
  · obtain rfl : R = Rule0 := hR
    go_enter Tryd.func62, Tryd.ntmps62
    go_wp2_with fail
    refine (kr _).mono ?_
    rintro e w1 ⟨rfl, u1⟩
    go_wp2
    go_ret
    exact ⟨rfl, (Up.alloc _ _).trans (u1.trans (Up.alloc _ _))⟩
  · obtain rfl : R = .agg #[fnV f0, fnV f1, fnV f2, fnV f3, fnV f4, fnV f5] := hR
    go_enter Tryd.func62, Tryd.ntmps62
    go_wp2_with fail
    refine (kr _).mono ?_
    rintro e w1 ⟨rfl, u1⟩
    go_wp2
    go_ret
    exact ⟨rfl, (Up.alloc _ _).trans (u1.trans (Up.alloc _ _))⟩

structure Pol.Ok (P : Pol) : Prop where
  g : N64 P.g
  s : N64 P.s
  l : N64 P.l
  p : N64 P.p
structure Lev.Ok (v : Lev) : Prop where
  t : N64 v.t
  i : N64 v.i
  c : N64 v.c
abbrev PP (P : Pol) : Value := Pv P.k P.g P.s P.l P.p
abbrev LL (v : Lev) : Value := Lv v.t v.i v.c

theorem ruleOf_F (P : Pol) (h : P.F) (w : World) : Calls Tryd.prog 36 #[PP P] w fun e w' => e = .returned (.tuple #[RuleF, .bool true]) ∧ Up w w' := by
  obtain ⟨k, g, s, l, p⟩ := P
  obtain ⟨h1, h2, h3, h4⟩ := h
  simp only at h1 h2 h3 h4
  subst h1 h3 h4
  exact ruleOf_flow g s 0 0 true (by simp; omega) w
theorem ruleOf_G (P : Pol) (h : P.G) (w : World) : Calls Tryd.prog 36 #[PP P] w fun e w' => e = .returned (.tuple #[RuleG, .bool true]) ∧ Up w w' := by
  obtain ⟨k, g, s, l, p⟩ := P
  obtain ⟨h1, h2, h3, h4⟩ := h
  simp only at h1 h2 h3 h4
  subst h1 h3 h4
  exact ruleOf_grid 0 0 l p true (by simp; omega) w
theorem ruleOf_none (P : Pol) (hF : ¬ P.F) (hG : ¬ P.G) (w : World) : Calls Tryd.prog 36 #[PP P] w fun e w' => e = .returned (.tuple #[Rule0, .bool false]) ∧ Up w w' := by
  obtain ⟨k, g, s, l, p⟩ := P
  unfold Pol.F at hF
  unfold Pol.G at hG
  simp only at hF hG
  have : k < 1 ∨ 2 < k ∨ k = 1 ∨ k = 2 := by omega
  rcases this with h | h | h | h
  · exact ruleOf_less k g s l p h w
  · exact ruleOf_more k g s l p h w
  · subst h
    exact ruleOf_flow g s l p false (by simp; omega) w
  · subst h
    exact ruleOf_grid g s l p false (by simp; omega) w

theorem valid_call (P : Pol) (w : World) : Calls Tryd.prog 62 #[PP P] w fun e w' => e = .returned (.bool (pValid P)) ∧ Up w w' := by
  by_cases hF : P.F
  · rw [show pValid P = true from decide_eq_true (Or.inl hF)]
    exact Valid_kind _ _ _ _ _ _ _ _ _ _ _ _ true rfl (ruleOf_F P hF) w
  · by_cases hG : P.G
    · rw [show pValid P = true from decide_eq_true (Or.inr hG)]
      exact Valid_kind _ _ _ _ _ _ _ _ _ _ _ _ true rfl (ruleOf_G P hG) w
    · rw [show pValid P = false from decide_eq_false (fun h => h.elim hF hG)]
      exact Valid_kind _ _ _ _ _ 0 0 0 0 0 0 _ false rfl (ruleOf_none P hF hG) w
end Go.Proofs.YtdddfapelencoaaDoor
