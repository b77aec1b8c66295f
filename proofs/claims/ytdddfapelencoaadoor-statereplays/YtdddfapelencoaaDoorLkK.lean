/- Merged: StReplay0, StReplay. -/
import Derived.Test.YtdddfapelencoaaDoorLkJ
import Derived.Deep.DeepCutAuto
set_option linter.unusedVariables false
set_option linter.unusedSimpArgs false
namespace Go.Proofs.YtdddfapelencoaaDoor
open Go Go.RowKit

set_option maxRecDepth 20000 in
set_option maxHeartbeats 3200000 in
theorem Replay_none (a0 : Option Addr) (N0 c0 l f n : Nat) (ao : Option Addr) (N c : Nat) (w : World) (hV : ∀ u, Up w u → Calls Tryd.prog 8 #[.agg #[V l, V f, .slice a0 N0 c0]] u fun e w' => e = .returned (.bool false) ∧ Up u w') (a : Addr) (hg : Gl w 1 a) :
    Calls Tryd.prog 18 #[.agg #[V l, V f, .slice a0 N0 c0], V n, .slice ao N c] w fun e w' => e = .returned (.tuple #[.agg #[Z, Z, .slice none 0 0], E a]) ∧ Up w w' := by
  have HV : Hid (∀ u, Up w u → Calls Tryd.prog 8 #[.agg #[V l, V f, .slice a0 N0 c0]] u fun e w' => e = .returned (.bool false) ∧ Up u w') := hV
  clear hV
  obtain ⟨B, hB⟩ : ∃ B, w.heap.size = B := ⟨_, rfl⟩
  have HB : Hid (w.heap.size = B) := hB
  have u0 : Up w ((w.alloc (.cells #[V l, V f, .slice a0 N0 c0] 27)).alloc (.cells #[Z, Z, .slice none 0 0] 27)) := (Up.alloc _ _).trans (Up.alloc _ _)
  have b0 : Box ((w.alloc (.cells #[V l, V f, .slice a0 N0 c0] 27)).alloc (.cells #[Z, Z, .slice none 0 0] 27)) w.heap.size #[V l, V f, .slice a0 N0 c0] := (Box.new _ _ _).alloc _
  have b1 : Box ((w.alloc (.cells #[V l, V f, .slice a0 N0 c0] 27)).alloc (.cells #[Z, Z, .slice none 0 0] 27)) (w.heap.size + 1) #[Z, Z, .slice none 0 0] := Box.newAt (by simp)
  rw [hB] at b0 b1
  go_enter Tryd.func18, Tryd.ntmps18
  go_upto_region 1 with fail
  clear hB
  generalize (w.alloc (.cells #[V l, V f, .slice a0 N0 c0] 27)).alloc (.cells #[Z, Z, .slice none 0 0] 27) = w0 at *
  obtain ⟨s0, s1, s2⟩ := b0.c3
  go_wp2_with fail
  refine (HV.out _ u0).mono ?_
  rintro e w1 ⟨rfl, u1⟩
  have hU := u0.trans u1
  replace b1 := b1.up u1
  replace b0 := b0.up u1
  clear s0 s1 s2 u0 u1 HV
  have hgl := (hg.up hU).up (Up.drew w1)
  have bz := b1.up (Up.drew w1)
  replace hU := hU.trans (Up.drew w1)
  have hgne : B + 1 ≠ 1 := by have := hg.lt; have := HB.out; omega
  have HG : Hid (B + 1 ≠ 1) := hgne
  clear hgne hg b1
  go_upto_region 2 with fail
  refine wp_region_held_drew (S := fun u => Gl u 1 a) (by kernel_rfl) hgl (fun hs0 => ?_)
  clear hs0
  generalize w1.drew = wd at *
  refine take_to (some 16) (i := 0) (v := .agg #[.int .u64 0, .int .u64 0, .slice none 0 0]) rfl rfl (by kernel_rfl) (by kernel_rfl) (by kernel_rfl) (fun _ _ _ h => h) (Or.inl ⟨by kernel_rfl, by intro u hSu; go_simp⟩) hgl ?_
  simp only [Act.put, List.setIfInBounds_toArray, List.set_cons_zero, List.set_cons_succ]
  refine take_to (some 17) (i := 1) (v := E a) rfl rfl (by kernel_rfl) (by kernel_rfl) (by kernel_rfl) (fun _ _ _ h => h) (Or.inl ⟨by kernel_rfl, by intro u hSu; have q := Gl.cell hSu; go_simp⟩) hgl ?_
  simp only [Act.put, List.setIfInBounds_toArray, List.set_cons_zero, List.set_cons_succ]
  obtain ⟨y0, y1, y2⟩ := bz.c3
  have f0 := bz.frozen 0
  have f1 := bz.frozen 1
  have f2 := bz.frozen 2
  refine wpAnyH_ready (rs := [2]) (by kernel_rfl) (by simp) ?_
  refine AllReadyH.cons rfl (fun K hK => ?_) AllReadyH.nil
  go_simp
  have g3 : Gl (((wd.setCell ⟨B + 1, 0, none⟩ Z).setCell ⟨B + 1, 1, none⟩ Z).setCell ⟨B + 1, 2, none⟩ (.slice none 0 0)) 1 a := ((hgl.other HG.out _ _).other HG.out _ _).other HG.out _ _
  refine hK.out _ _ g3 (fun _ => ?_)
  clear hK K y0 y1 y2 f0 f1 f2
  have bR := Box.set3 (x := Z) (y := Z) (z := .slice none 0 0) bz
  have UR := Up.set3 hU (by have := HB.out; omega : w.heap.size ≤ B + 1) Z Z (.slice none 0 0)
  generalize World.setCell (World.setCell (World.setCell _ _ _) _ _) _ _ = w6 at bR UR g3 ⊢
  refine wpAnyH_ready (rs := [3]) (by kernel_rfl) (by simp) ?_
  refine AllReadyH.cons rfl (fun K hK => ?_) AllReadyH.nil
  go_simp
  refine hK.out _ _ g3 (fun _ => ?_)
  clear hK K
  refine wpAnyH_done (by kernel_rfl) ?_ _
  go_wp2_with fail
  obtain ⟨g0, g1, g2⟩ := bR.c3
  exact bodyPost_ret (v := .tuple #[.agg #[Z, Z, .slice none 0 0], E a]) (by simp [results, Tryd.results18, go_sem, g0, g1, g2]) rfl ⟨rfl, UR⟩
set_option maxRecDepth 20000 in
set_option maxHeartbeats 3200000 in
theorem Replay_zero (a0 : Option Addr) (N0 c0 l f n : Nat) (ao : Option Addr) (N c : Nat) (w : World) (hV : ∀ u, Up w u → Calls Tryd.prog 8 #[.agg #[V l, V f, .slice a0 N0 c0]] u fun e w' => e = .returned (.bool true) ∧ Up u w') (a : Addr) (hg : Gl w 1 a) (hn : n = 0) :
    Calls Tryd.prog 18 #[.agg #[V l, V f, .slice a0 N0 c0], V n, .slice ao N c] w fun e w' => e = .returned (.tuple #[.agg #[Z, Z, .slice none 0 0], E a]) ∧ Up w w' := by
  have HV : Hid (∀ u, Up w u → Calls Tryd.prog 8 #[.agg #[V l, V f, .slice a0 N0 c0]] u fun e w' => e = .returned (.bool true) ∧ Up u w') := hV
  clear hV
  subst hn
  obtain ⟨B, hB⟩ : ∃ B, w.heap.size = B := ⟨_, rfl⟩
  have HB : Hid (w.heap.size = B) := hB
  have u0 : Up w ((w.alloc (.cells #[V l, V f, .slice a0 N0 c0] 27)).alloc (.cells #[Z, Z, .slice none 0 0] 27)) := (Up.alloc _ _).trans (Up.alloc _ _)
  have b0 : Box ((w.alloc (.cells #[V l, V f, .slice a0 N0 c0] 27)).alloc (.cells #[Z, Z, .slice none 0 0] 27)) w.heap.size #[V l, V f, .slice a0 N0 c0] := (Box.new _ _ _).alloc _
  have b1 : Box ((w.alloc (.cells #[V l, V f, .slice a0 N0 c0] 27)).alloc (.cells #[Z, Z, .slice none 0 0] 27)) (w.heap.size + 1) #[Z, Z, .slice none 0 0] := Box.newAt (by simp)
  rw [hB] at b0 b1
  go_enter Tryd.func18, Tryd.ntmps18
  go_upto_region 1 with fail
  clear hB
  generalize (w.alloc (.cells #[V l, V f, .slice a0 N0 c0] 27)).alloc (.cells #[Z, Z, .slice none 0 0] 27) = w0 at *
  obtain ⟨s0, s1, s2⟩ := b0.c3
  go_wp2_with fail
  refine (HV.out _ u0).mono ?_
  rintro e w1 ⟨rfl, u1⟩
  have hU := u0.trans u1
  replace b1 := b1.up u1
  replace b0 := b0.up u1
  clear s0 s1 s2 u0 u1 HV
  have hgl := (hg.up hU).up (Up.drew w1)
  have bz := b1.up (Up.drew w1)
  replace hU := hU.trans (Up.drew w1)
  have hgne : B + 1 ≠ 1 := by have := hg.lt; have := HB.out; omega
  have HG : Hid (B + 1 ≠ 1) := hgne
  clear hgne hg b1
  go_upto_region 2 with fail
  refine wp_region_held_drew (S := fun u => Gl u 1 a) (by kernel_rfl) hgl (fun hs0 => ?_)
  clear hs0
  generalize w1.drew = wd at *
  refine take_to (some 16) (i := 0) (v := .agg #[.int .u64 0, .int .u64 0, .slice none 0 0]) rfl rfl (by kernel_rfl) (by kernel_rfl) (by kernel_rfl) (fun _ _ _ h => h) (Or.inl ⟨by kernel_rfl, by intro u hSu; go_simp⟩) hgl ?_
  simp only [Act.put, List.setIfInBounds_toArray, List.set_cons_zero, List.set_cons_succ]
  refine take_to (some 17) (i := 1) (v := E a) rfl rfl (by kernel_rfl) (by kernel_rfl) (by kernel_rfl) (fun _ _ _ h => h) (Or.inl ⟨by kernel_rfl, by intro u hSu; have q := Gl.cell hSu; go_simp⟩) hgl ?_
  simp only [Act.put, List.setIfInBounds_toArray, List.set_cons_zero, List.set_cons_succ]
  obtain ⟨y0, y1, y2⟩ := bz.c3
  have f0 := bz.frozen 0
  have f1 := bz.frozen 1
  have f2 := bz.frozen 2
  refine wpAnyH_ready (rs := [2]) (by kernel_rfl) (by simp) ?_
  refine AllReadyH.cons rfl (fun K hK => ?_) AllReadyH.nil
  go_simp
  have g3 : Gl (((wd.setCell ⟨B + 1, 0, none⟩ Z).setCell ⟨B + 1, 1, none⟩ Z).setCell ⟨B + 1, 2, none⟩ (.slice none 0 0)) 1 a := ((hgl.other HG.out _ _).other HG.out _ _).other HG.out _ _
  refine hK.out _ _ g3 (fun _ => ?_)
  clear hK K y0 y1 y2 f0 f1 f2
  have bR := Box.set3 (x := Z) (y := Z) (z := .slice none 0 0) bz
  have UR := Up.set3 hU (by have := HB.out; omega : w.heap.size ≤ B + 1) Z Z (.slice none 0 0)
  generalize World.setCell (World.setCell (World.setCell _ _ _) _ _) _ _ = w6 at bR UR g3 ⊢
  refine wpAnyH_ready (rs := [3]) (by kernel_rfl) (by simp) ?_
  refine AllReadyH.cons rfl (fun K hK => ?_) AllReadyH.nil
  go_simp
  refine hK.out _ _ g3 (fun _ => ?_)
  clear hK K
  refine wpAnyH_done (by kernel_rfl) ?_ _
  go_wp2_with fail
  obtain ⟨g0, g1, g2⟩ := bR.c3
  exact bodyPost_ret (v := .tuple #[.agg #[Z, Z, .slice none 0 0], E a]) (by simp [results, Tryd.results18, go_sem, g0, g1, g2]) rfl ⟨rfl, UR⟩
set_option maxRecDepth 20000 in
set_option maxHeartbeats 3200000 in
theorem Replay_plain (a0 : Option Addr) (N0 c0 l f n : Nat) (ao : Option Addr) (N c : Nat) (w : World) (hV : ∀ u, Up w u → Calls Tryd.prog 8 #[.agg #[V l, V f, .slice a0 N0 c0]] u fun e w' => e = .returned (.bool true) ∧ Up u w') (ad : Nat → Addr) (RES : Except Flw StV) (hn : n ≠ 0) (hlt : l < n) (hR : ∀ u, Up w u → Calls Tryd.prog 32 #[.agg #[V l, V f, .slice a0 N0 c0], V n, .slice ao N c] u (RunPost ad u RES)) :
    Calls Tryd.prog 18 #[.agg #[V l, V f, .slice a0 N0 c0], V n, .slice ao N c] w (RunPost ad w RES) := by
  have HV : Hid (∀ u, Up w u → Calls Tryd.prog 8 #[.agg #[V l, V f, .slice a0 N0 c0]] u fun e w' => e = .returned (.bool true) ∧ Up u w') := hV
  clear hV
  have HRUN : Hid (∀ u, Up w u → Calls Tryd.prog 32 #[.agg #[V l, V f, .slice a0 N0 c0], V n, .slice ao N c] u (RunPost ad u RES)) := hR
  have hn0 : ((n : Int) == 0) = false := by simp only [beq_eq_false_iff_ne]; omega
  have hle : ¬ (n : Int) ≤ (l : Int) := by omega
  have hle2 : ¬ n ≤ l := by omega
  have hld : decide ((n : Int) ≤ (l : Int)) = false := decide_eq_false hle
  clear hR hn hlt
  obtain ⟨B, hB⟩ : ∃ B, w.heap.size = B := ⟨_, rfl⟩
  have HB : Hid (w.heap.size = B) := hB
  have u0 : Up w ((w.alloc (.cells #[V l, V f, .slice a0 N0 c0] 27)).alloc (.cells #[Z, Z, .slice none 0 0] 27)) := (Up.alloc _ _).trans (Up.alloc _ _)
  have b0 : Box ((w.alloc (.cells #[V l, V f, .slice a0 N0 c0] 27)).alloc (.cells #[Z, Z, .slice none 0 0] 27)) w.heap.size #[V l, V f, .slice a0 N0 c0] := (Box.new _ _ _).alloc _
  have b1 : Box ((w.alloc (.cells #[V l, V f, .slice a0 N0 c0] 27)).alloc (.cells #[Z, Z, .slice none 0 0] 27)) (w.heap.size + 1) #[Z, Z, .slice none 0 0] := Box.newAt (by simp)
  rw [hB] at b0 b1
  go_enter Tryd.func18, Tryd.ntmps18
  go_upto_region 1 with fail
  clear hB
  generalize (w.alloc (.cells #[V l, V f, .slice a0 N0 c0] 27)).alloc (.cells #[Z, Z, .slice none 0 0] 27) = w0 at *
  obtain ⟨s0, s1, s2⟩ := b0.c3
  go_wp2_with fail
  refine (HV.out _ u0).mono ?_
  rintro e w1 ⟨rfl, u1⟩
  have hU := u0.trans u1
  replace b1 := b1.up u1
  replace b0 := b0.up u1
  clear s0 s1 s2 u0 u1 HV
  obtain ⟨s0, s1, s2⟩ := b0.c3
  have key := HRUN.out w1 hU
  clear HRUN b0
  cases hres : RES with
  | error x =>
    subst hres
    go_wp2_with fail
    refine key.mono ?_
    rintro e w4 ⟨rfl, u4⟩
    have b4 := b1.up u4
    have U4 := hU.trans u4
    obtain ⟨y0, y1, y2⟩ := b4.c3
    have f0 := b4.frozen 0
    have f1 := b4.frozen 1
    have f2 := b4.frozen 2
    have HB4 : Hid (Box w4 (B + 1) #[Z, Z, .slice none 0 0] ∧ Up w w4) := ⟨b4, U4⟩
    clear b4 U4 u4 key b1 hU
    go_wp2_with fail
    have bR := Box.set3 (x := Z) (y := Z) (z := .slice none 0 0) HB4.out.1
    have UR := Up.set3 HB4.out.2 (by have := HB.out; omega : w.heap.size ≤ B + 1) Z Z (.slice none 0 0)
    generalize World.setCell (World.setCell (World.setCell _ _ _) _ _) _ _ = w6 at bR UR ⊢
    obtain ⟨g0, g1, g2⟩ := bR.c3
    exact bodyPost_ret (v := .tuple #[.agg #[Z, Z, .slice none 0 0], E (ad (gOf x))]) (by simp [results, Tryd.results18, go_sem, g0, g1, g2]) rfl ⟨rfl, UR⟩
  | ok t =>
    subst hres
    go_wp2_with fail
    refine key.mono ?_
    rintro e w4 ⟨v4, rfl, o4, u4⟩
    have b4 := b1.up u4
    have U4 := hU.trans u4
    obtain ⟨a2, M2, c2, rfl⟩ : ∃ a1 M c1, v4 = .slice a1 M c1 := by obtain ⟨a1, c1, e⟩ := o4.shape; exact ⟨_, _, _, e⟩
    obtain ⟨y0, y1, y2⟩ := b4.c3
    have f0 := b4.frozen 0
    have f1 := b4.frozen 1
    have f2 := b4.frozen 2
    have hRl := b1.lt
    have HB4 : Hid (Box w4 (B + 1) #[Z, Z, .slice none 0 0] ∧ Up w w4 ∧ OwnE w4 (B + 1 + 1) (.slice a2 M2 c2) t.keys) := ⟨b4, U4, o4.rebase (by omega)⟩
    clear b4 U4 u4 key b1 hU o4 hRl
    go_wp2_with fail
    have bR := Box.set3 (x := V t.lsn) (y := V t.floor) (z := .slice a2 M2 c2) HB4.out.1
    have UR := Up.set3 HB4.out.2.1 (by have := HB.out; omega : w.heap.size ≤ B + 1) (V t.lsn) (V t.floor) (.slice a2 M2 c2)
    have TR : Touch w4 (((w4.setCell ⟨B + 1, 0, none⟩ (V t.lsn)).setCell ⟨B + 1, 1, none⟩ (V t.floor)).setCell ⟨B + 1, 2, none⟩ (.slice a2 M2 c2)) [B + 1] := (((Touch.refl _ _).setCell (.inl (by simp)) _ _).setCell (.inl (by simp)) _ _).setCell (.inl (by simp)) _ _
    have OR := HB4.out.2.2.kept TR (fun j hj => by have := (HB4.out.2.2.ge j hj).1; simp; omega)
    generalize World.setCell (World.setCell (World.setCell _ _ _) _ _) _ _ = w6 at bR UR OR ⊢
    obtain ⟨g0, g1, g2⟩ := bR.c3
    exact bodyPost_ret (v := .tuple #[.agg #[V t.lsn, V t.floor, .slice a2 M2 c2], .nilIface]) (by simp [results, Tryd.results18, go_sem, g0, g1, g2]) rfl ⟨_, rfl, OR.rebase (by have := HB.out; omega), UR⟩
end Go.Proofs.YtdddfapelencoaaDoor

set_option linter.unusedVariables false
set_option linter.unusedSimpArgs false
namespace Go.Proofs.YtdddfapelencoaaDoor
open Go Go.RowKit

set_option maxRecDepth 20000 in
set_option maxHeartbeats 3200000 in
theorem Replay_held (a0 : Option Addr) (N0 c0 l f n : Nat) (ao : Option Addr) (N c : Nat) (w : World) (hV : ∀ u, Up w u → Calls Tryd.prog 8 #[.agg #[V l, V f, .slice a0 N0 c0]] u fun e w' => e = .returned (.bool true) ∧ Up u w') (ad : Nat → Addr) (RES : Except Flw StV) (k m : Nat) (vr : Value) (hm : n + k = m) (hn : n ≠ 0) (hle0 : n ≤ l) (hl : l ≤ 4611686018427387904) (hN : N ≤ 140737488355328) (hNc : N ≤ c) (hcm : c ≤ maxLen) (hk : k = min (l - n + 1) N) (hvr : (c = k ∧ vr = .slice ao 0 0) ∨ (c ≠ k ∧ ∃ ad, ao = some ad ∧ vr = .slice (some (ad.add (k * 11))) (N - k) (c - k))) (hR : ∀ u, Up w u → Calls Tryd.prog 32 #[.agg #[V l, V f, .slice a0 N0 c0], V m, vr] u (RunPost ad u RES)) :
    Calls Tryd.prog 18 #[.agg #[V l, V f, .slice a0 N0 c0], V n, .slice ao N c] w (RunPost ad w RES) := by
  have HV : Hid (∀ u, Up w u → Calls Tryd.prog 8 #[.agg #[V l, V f, .slice a0 N0 c0]] u fun e w' => e = .returned (.bool true) ∧ Up u w') := hV
  clear hV
  have HRUN : Hid (∀ u, Up w u → Calls Tryd.prog 32 #[.agg #[V l, V f, .slice a0 N0 c0], V m, vr] u (RunPost ad u RES)) := hR
  have hn0 : ((n : Int) == 0) = false := by simp only [beq_eq_false_iff_ne]; omega
  have hle : (n : Int) ≤ (l : Int) := by omega
  have hle2 : n ≤ l := hle0
  have e1 : IntKind.u64.wrap ((l : Int) - (n : Int)) = (l : Int) - (n : Int) := by rw [IntKind.wrap_u64]; omega
  have e2 : IntKind.u64.wrap ((l : Int) - (n : Int) + 1) = (l : Int) - (n : Int) + 1 := by rw [IntKind.wrap_u64]; omega
  have e3 : min ((l : Int) - (n : Int) + 1) (N : Int) = (k : Int) := by omega
  have e4 : IntKind.u64.wrap ((n : Int) + (k : Int)) = (m : Int) := by rw [IntKind.wrap_u64]; omega
  have hkN : k ≤ N := by omega
  have hk1 : (k : Int) ≤ (N : Int) := by omega
  have hN1 : (N : Int) ≤ 140737488355328 := by omega
  have hc1 : (c : Int) ≤ 9223372036854775807 := by unfold maxLen at hcm; omega
  clear hR hn hle0 hk hcm hl hm
  obtain ⟨B, hB⟩ : ∃ B, w.heap.size = B := ⟨_, rfl⟩
  have HB : Hid (w.heap.size = B) := hB
  have u0 : Up w ((w.alloc (.cells #[V l, V f, .slice a0 N0 c0] 27)).alloc (.cells #[Z, Z, .slice none 0 0] 27)) := (Up.alloc _ _).trans (Up.alloc _ _)
  have b0 : Box ((w.alloc (.cells #[V l, V f, .slice a0 N0 c0] 27)).alloc (.cells #[Z, Z, .slice none 0 0] 27)) w.heap.size #[V l, V f, .slice a0 N0 c0] := (Box.new _ _ _).alloc _
  have b1 : Box ((w.alloc (.cells #[V l, V f, .slice a0 N0 c0] 27)).alloc (.cells #[Z, Z, .slice none 0 0] 27)) (w.heap.size + 1) #[Z, Z, .slice none 0 0] := Box.newAt (by simp)
  rw [hB] at b0 b1
  go_enter Tryd.func18, Tryd.ntmps18
  go_upto_region 1 with fail
  clear hB
  generalize (w.alloc (.cells #[V l, V f, .slice a0 N0 c0] 27)).alloc (.cells #[Z, Z, .slice none 0 0] 27) = w0 at *
  obtain ⟨s0, s1, s2⟩ := b0.c3
  go_wp2_with fail
  refine (HV.out _ u0).mono ?_
  rintro e w1 ⟨rfl, u1⟩
  have hU := u0.trans u1
  replace b1 := b1.up u1
  replace b0 := b0.up u1
  clear s0 s1 s2 u0 u1 HV
  obtain ⟨s0, s1, s2⟩ := b0.c3
  rcases hvr with ⟨rfl, rfl⟩ | ⟨hck, ad0, rfl, rfl⟩
  · go_upto_region 5 with fail
    go_quiet (fail)
    have hU2 := hU.trans (up_drewN w1 nq)
    have b02 := b0.up (up_drewN w1 nq)
    have b12 := b1.up (up_drewN w1 nq)
    generalize w1.drewN nq = w2 at *
    clear hU b1 b0 s0 s1 s2
    have hU := hU2
    have b1 := b12
    obtain ⟨s0, s1, s2⟩ := b02.c3
    have key := HRUN.out w2 hU
    clear HRUN b02 b12 hU2
    cases hres : RES with
    | error x =>
      subst hres
      go_wp2_with fail
      refine key.mono ?_
      rintro e w4 ⟨rfl, u4⟩
      have b4 := b1.up u4
      have U4 := hU.trans u4
      obtain ⟨y0, y1, y2⟩ := b4.c3
      have f0 := b4.frozen 0
      have f1 := b4.frozen 1
      have f2 := b4.frozen 2
      have HB4 : Hid (Box w4 (B + 1) #[Z, Z, .slice none 0 0] ∧ Up w w4) := ⟨b4, U4⟩
      clear b4 U4 u4 key b1 hU
      go_wp2_with fail
      have bR := Box.set3 (x := Z) (y := Z) (z := .slice none 0 0) HB4.out.1
      have UR := Up.set3 HB4.out.2 (by have := HB.out; omega : w.heap.size ≤ B + 1) Z Z (.slice none 0 0)
      generalize World.setCell (World.setCell (World.setCell _ _ _) _ _) _ _ = w6 at bR UR ⊢
      obtain ⟨g0, g1, g2⟩ := bR.c3
      exact bodyPost_ret (v := .tuple #[.agg #[Z, Z, .slice none 0 0], E (ad (gOf x))]) (by simp [results, Tryd.results18, go_sem, g0, g1, g2]) rfl ⟨rfl, UR⟩
    | ok t =>
      subst hres
      go_wp2_with fail
      refine key.mono ?_
      rintro e w4 ⟨v4, rfl, o4, u4⟩
      have b4 := b1.up u4
      have U4 := hU.trans u4
      obtain ⟨a2, M2, c2, rfl⟩ : ∃ a1 M c1, v4 = .slice a1 M c1 := by obtain ⟨a1, c1, e⟩ := o4.shape; exact ⟨_, _, _, e⟩
      obtain ⟨y0, y1, y2⟩ := b4.c3
      have f0 := b4.frozen 0
      have f1 := b4.frozen 1
      have f2 := b4.frozen 2
      have hRl := b1.lt
      have HB4 : Hid (Box w4 (B + 1) #[Z, Z, .slice none 0 0] ∧ Up w w4 ∧ OwnE w4 (B + 1 + 1) (.slice a2 M2 c2) t.keys) := ⟨b4, U4, o4.rebase (by omega)⟩
      clear b4 U4 u4 key b1 hU o4 hRl
      go_wp2_with fail
      have bR := Box.set3 (x := V t.lsn) (y := V t.floor) (z := .slice a2 M2 c2) HB4.out.1
      have UR := Up.set3 HB4.out.2.1 (by have := HB.out; omega : w.heap.size ≤ B + 1) (V t.lsn) (V t.floor) (.slice a2 M2 c2)
      have TR : Touch w4 (((w4.setCell ⟨B + 1, 0, none⟩ (V t.lsn)).setCell ⟨B + 1, 1, none⟩ (V t.floor)).setCell ⟨B + 1, 2, none⟩ (.slice a2 M2 c2)) [B + 1] := (((Touch.refl _ _).setCell (.inl (by simp)) _ _).setCell (.inl (by simp)) _ _).setCell (.inl (by simp)) _ _
      have OR := HB4.out.2.2.kept TR (fun j hj => by have := (HB4.out.2.2.ge j hj).1; simp; omega)
      generalize World.setCell (World.setCell (World.setCell _ _ _) _ _) _ _ = w6 at bR UR OR ⊢
      obtain ⟨g0, g1, g2⟩ := bR.c3
      exact bodyPost_ret (v := .tuple #[.agg #[V t.lsn, V t.floor, .slice a2 M2 c2], .nilIface]) (by simp [results, Tryd.results18, go_sem, g0, g1, g2]) rfl ⟨_, rfl, OR.rebase (by have := HB.out; omega), UR⟩
  · go_upto_region 5 with fail
    go_quiet (fail)
    have hU2 := hU.trans (up_drewN w1 nq)
    have b02 := b0.up (up_drewN w1 nq)
    have b12 := b1.up (up_drewN w1 nq)
    generalize w1.drewN nq = w2 at *
    clear hU b1 b0 s0 s1 s2
    have hU := hU2
    have b1 := b12
    obtain ⟨s0, s1, s2⟩ := b02.c3
    have key := HRUN.out w2 hU
    clear HRUN b02 b12 hU2
    cases hres : RES with
    | error x =>
      subst hres
      go_wp2_with fail
      refine key.mono ?_
      rintro e w4 ⟨rfl, u4⟩
      have b4 := b1.up u4
      have U4 := hU.trans u4
      obtain ⟨y0, y1, y2⟩ := b4.c3
      have f0 := b4.frozen 0
      have f1 := b4.frozen 1
      have f2 := b4.frozen 2
      have HB4 : Hid (Box w4 (B + 1) #[Z, Z, .slice none 0 0] ∧ Up w w4) := ⟨b4, U4⟩
      clear b4 U4 u4 key b1 hU
      go_wp2_with fail
      have bR := Box.set3 (x := Z) (y := Z) (z := .slice none 0 0) HB4.out.1
      have UR := Up.set3 HB4.out.2 (by have := HB.out; omega : w.heap.size ≤ B + 1) Z Z (.slice none 0 0)
      generalize World.setCell (World.setCell (World.setCell _ _ _) _ _) _ _ = w6 at bR UR ⊢
      obtain ⟨g0, g1, g2⟩ := bR.c3
      exact bodyPost_ret (v := .tuple #[.agg #[Z, Z, .slice none 0 0], E (ad (gOf x))]) (by simp [results, Tryd.results18, go_sem, g0, g1, g2]) rfl ⟨rfl, UR⟩
    | ok t =>
      subst hres
      go_wp2_with fail
      refine key.mono ?_
      rintro e w4 ⟨v4, rfl, o4, u4⟩
      have b4 := b1.up u4
      have U4 := hU.trans u4
      obtain ⟨a2, M2, c2, rfl⟩ : ∃ a1 M c1, v4 = .slice a1 M c1 := by obtain ⟨a1, c1, e⟩ := o4.shape; exact ⟨_, _, _, e⟩
      obtain ⟨y0, y1, y2⟩ := b4.c3
      have f0 := b4.frozen 0
      have f1 := b4.frozen 1
      have f2 := b4.frozen 2
      have hRl := b1.lt
      have HB4 : Hid (Box w4 (B + 1) #[Z, Z, .slice none 0 0] ∧ Up w w4 ∧ OwnE w4 (B + 1 + 1) (.slice a2 M2 c2) t.keys) := ⟨b4, U4, o4.rebase (by omega)⟩
      clear b4 U4 u4 key b1 hU o4 hRl
      go_wp2_with fail
      have bR := Box.set3 (x := V t.lsn) (y := V t.floor) (z := .slice a2 M2 c2) HB4.out.1
      have UR := Up.set3 HB4.out.2.1 (by have := HB.out; omega : w.heap.size ≤ B + 1) (V t.lsn) (V t.floor) (.slice a2 M2 c2)
      have TR : Touch w4 (((w4.setCell ⟨B + 1, 0, none⟩ (V t.lsn)).setCell ⟨B + 1, 1, none⟩ (V t.floor)).setCell ⟨B + 1, 2, none⟩ (.slice a2 M2 c2)) [B + 1] := (((Touch.refl _ _).setCell (.inl (by simp)) _ _).setCell (.inl (by simp)) _ _).setCell (.inl (by simp)) _ _
      have OR := HB4.out.2.2.kept TR (fun j hj => by have := (HB4.out.2.2.ge j hj).1; simp; omega)
      generalize World.setCell (World.setCell (World.setCell _ _ _) _ _) _ _ = w6 at bR UR OR ⊢
      obtain ⟨g0, g1, g2⟩ := bR.c3
      exact bodyPost_ret (v := .tuple #[.agg #[V t.lsn, V t.floor, .slice a2 M2 c2], .nilIface]) (by simp [results, Tryd.results18, go_sem, g0, g1, g2]) rfl ⟨_, rfl, OR.rebase (by have := HB.out; omega), UR⟩

/-- Replay. -/
theorem Replay_any (v : Value) (l f n : Nat) (xs : List Ent) (vr : Value) (rs : List RecV) (ad : Nat → Addr) (w : World) (h : SlE w v xs) (hr : SlR w vr rs) (hl : xs.length ≤ 4611686018427387903) (hn : n < 18446744073709551616) (hrl : rs.length ≤ 140737488355328) (hcm : ∀ a m c, vr = .slice a m c → c ≤ maxLen) (hk : ErrSet stErrs errTxt w ad) :
    Calls Tryd.prog 18 #[.agg #[V l, V f, v], V n, vr] w (RunPost ad w (replayS ⟨l, f, xs⟩ n rs)) := by
  have hV := fun u (uu : Up w u) => Valid_any v l f xs u (h.up uu) hl
  have ga := (hk 1 (by decide)).1
  unfold replayS
  obtain ⟨ao, c, rfl⟩ := hr.shape
  cases ho : okS ⟨l, f, xs⟩ with
  | false =>
    rw [ho] at hV
    obtain ⟨a0, c0, rfl⟩ := h.shape
    exact Replay_none a0 xs.length c0 l f n ao rs.length c w hV _ ga
  | true =>
    rw [ho] at hV
    have hs := (okS_iff _).1 ho
    have hlsn : l ≤ 4611686018427387904 := hs.lsn
    by_cases h0 : n = 0
    · rw [if_neg (by simp [h0])]
      obtain ⟨a0, c0, rfl⟩ := h.shape
      exact Replay_zero a0 xs.length c0 l f n ao rs.length c w hV _ ga h0
    · rw [if_pos (by simp [h0])]
      by_cases hle : n ≤ l
      · rw [if_pos hle]
        have hd := fun u (uu : Up w u) => SlR.dropped (hr.up uu) (k := min (l - n + 1) rs.length) (Nat.min_le_right _ _)
        have hNc : rs.length ≤ c := by obtain ⟨a, c', e, hc, _⟩ := hr; simp only [Value.slice.injEq] at e; omega
        have hlen : (rs.drop (min (l - n + 1) rs.length)).length ≤ 140737488355328 := by rw [List.length_drop]; omega
        by_cases hck : c = min (l - n + 1) rs.length
        · have hR := fun u (uu : Up w u) => run_any v l f (n + min (l - n + 1) rs.length) xs _ _ ad u (h.up uu) ((hd u uu).1 hck) hs (by omega) hlen (hk.up uu)
          obtain ⟨a0, c0, rfl⟩ := h.shape
          exact Replay_held a0 xs.length c0 l f n ao rs.length c w hV ad _ _ _ _ rfl h0 hle hlsn hrl hNc (hcm _ _ _ rfl) rfl (.inl ⟨hck, rfl⟩) hR
        · obtain ⟨ad0, rfl, _⟩ := (hd w (Up.refl _)).2 hck
          have hR : ∀ u, Up w u → Calls Tryd.prog 32 #[.agg #[V l, V f, v], V (n + min (l - n + 1) rs.length), .slice (some (ad0.add (min (l - n + 1) rs.length * 11))) (rs.length - min (l - n + 1) rs.length) (c - min (l - n + 1) rs.length)] u (RunPost ad u (runS ⟨l, f, xs⟩ (n + min (l - n + 1) rs.length) (rs.drop (min (l - n + 1) rs.length)))) := fun u uu => by
            obtain ⟨ad1, e1, hsl⟩ := (hd u uu).2 hck
            obtain rfl := Option.some.inj e1
            exact run_any v l f (n + min (l - n + 1) rs.length) xs _ _ ad u (h.up uu) hsl hs (by omega) hlen (hk.up uu)
          obtain ⟨a0, c0, rfl⟩ := h.shape
          exact Replay_held a0 xs.length c0 l f n (some ad0) rs.length c w hV ad _ _ _ _ rfl h0 hle hlsn hrl hNc (hcm _ _ _ rfl) rfl (.inr ⟨hck, ad0, rfl, rfl⟩) hR
      · rw [if_neg hle]
        have hR := fun u (uu : Up w u) => run_any v l f n xs _ rs ad u (h.up uu) (hr.up uu) hs hn hrl (hk.up uu)
        obtain ⟨a0, c0, rfl⟩ := h.shape
        exact Replay_plain a0 xs.length c0 l f n ao rs.length c w hV ad _ h0 (by omega) hR
end Go.Proofs.YtdddfapelencoaaDoor
