/- Merged: StChgA, StChgB. -/
import Derived.Test.YtdddfapelencoaaDoorStChg0
set_option linter.unusedVariables false
set_option linter.unusedSimpArgs false
namespace Go.Proofs.YtdddfapelencoaaDoor
open Go Go.RowKit

set_option maxRecDepth 20000 in
set_option maxHeartbeats 3200000 in
theorem change_def_there (sb l f N cp i : Nat) (a0 : Option Addr) (fl : Nat) (S : ByteArray) (pk : Int) (rg rs rl rp rt ri rc : Nat) (w : World) (hb : Box w sb #[V l, V f, .slice a0 N cp]) (hi : i ≤ N) (hN : N ≤ 4096)
    (hF : ∀ u, Up w u → Calls Tryd.prog 9 #[.agg #[V l, V f, .slice a0 N cp], .string S] u fun e w' => e = .returned (.tuple #[.int .i64 (i : Int), .bool true]) ∧ Up u w') :
    Calls Tryd.prog 48 #[.pointer (some ⟨sb, 0, none⟩), .agg #[.int .i64 1, V fl, .string S, .int .i64 pk, V rg, V rs, V rl, V rp, V rt, V ri, V rc]] w fun e w' => e = .returned (.bool false) ∧ Up w w' := by
  have HF : Hid (∀ u, Up w u → Calls Tryd.prog 9 #[.agg #[V l, V f, .slice a0 N cp], .string S] u fun e w' => e = .returned (.tuple #[.int .i64 (i : Int), .bool true]) ∧ Up u w') := hF
  have b0 : Box (w.alloc (.cells #[.int .i64 1, V fl, .string S, .int .i64 pk, V rg, V rs, V rl, V rp, V rt, V ri, V rc] 39)) w.heap.size #[.int .i64 1, V fl, .string S, .int .i64 pk, V rg, V rs, V rl, V rp, V rt, V ri, V rc] := Box.new _ _ _
  have u0 : Up w (w.alloc (.cells #[.int .i64 1, V fl, .string S, .int .i64 pk, V rg, V rs, V rl, V rp, V rt, V ri, V rc] 39)) := Up.alloc _ _
  have b1 := hb.up u0
  obtain ⟨B, hB⟩ : ∃ B, w.heap.size = B := ⟨_, rfl⟩
  have HB : Hid (w.heap.size = B) := hB
  have hN1 : (N : Int) ≤ 4096 := by omega
  have hi1 : (i : Int) ≤ (N : Int) := by omega
  rw [hB] at b0
  clear hF hb
  go_enter Tryd.func48, Tryd.ntmps48
  go_upto_region 1 with fail
  clear hB
  generalize w.alloc (.cells #[.int .i64 1, V fl, .string S, .int .i64 pk, V rg, V rs, V rl, V rp, V rt, V ri, V rc] 39) = w0 at *
  have hU := u0.trans (Up.drew w0)
  have hs : Sg sb B l f (.slice a0 N cp) #[.int .i64 1, V fl, .string S, .int .i64 pk, V rg, V rs, V rl, V rp, V rt, V ri, V rc] w w0.drew := Sg.up ⟨b1, b0, Touch.of_up u0 _⟩ (Up.drew w0)
  clear u0 b0 b1
  refine wp_region_held_drew (S := Sg sb B l f (.slice a0 N cp) #[.int .i64 1, V fl, .string S, .int .i64 pk, V rg, V rs, V rl, V rp, V rt, V ri, V rc] w) (by kernel_rfl) hs (fun hs0 => ?_)
  refine take_to (some 8) (i := 0) (v := .pointer (some ⟨sb, 0, none⟩)) rfl rfl (by kernel_rfl) (by kernel_rfl) (by kernel_rfl) (fun _ _ _ h => h) (Or.inl ⟨by kernel_rfl, by intro u hSu; go_simp⟩) hs ?_
  simp only [Act.put, List.setIfInBounds_toArray, List.set_cons_zero, List.set_cons_succ]
  refine take_to (some 9) (i := 1) (v := .pointer (some ⟨sb, 0, none⟩)) rfl rfl (by kernel_rfl) (by kernel_rfl) (by kernel_rfl) (fun _ _ _ h => h) (Or.inl ⟨by kernel_rfl, by intro u hSu; go_simp⟩) hs ?_
  simp only [Act.put, List.setIfInBounds_toArray, List.set_cons_zero, List.set_cons_succ]
  refine take_to (some 10) (i := 2) (v := .agg #[V l, V f, .slice a0 N cp]) rfl rfl (by kernel_rfl) (by kernel_rfl) (by kernel_rfl) (fun _ _ _ h => h) (Or.inl ⟨by kernel_rfl, by intro u hSu; obtain ⟨s0, s1, s2⟩ := hSu.st.c3; go_simp⟩) hs ?_
  simp only [Act.put, List.setIfInBounds_toArray, List.set_cons_zero, List.set_cons_succ]
  refine take_to (some 11) (i := 3) (v := .pointer (some ⟨B, 2, none⟩)) rfl rfl (by kernel_rfl) (by kernel_rfl) (by kernel_rfl) (fun _ _ _ h => h) (Or.inl ⟨by kernel_rfl, by intro u hSu; go_simp⟩) hs ?_
  simp only [Act.put, List.setIfInBounds_toArray, List.set_cons_zero, List.set_cons_succ]
  refine take_to (some 12) (i := 4) (v := .string S) rfl rfl (by kernel_rfl) (by kernel_rfl) (by kernel_rfl) (fun _ _ _ h => h) (Or.inl ⟨by kernel_rfl, by intro u hSu; obtain ⟨r0, r1, r2, r3, r4, r5, r6, r7, r8, r9, r10⟩ := hSu.rc.c11; go_simp⟩) hs ?_
  simp only [Act.put, List.setIfInBounds_toArray, List.set_cons_zero, List.set_cons_succ]
  refine wpAnyH_ready (rs := [5]) (by kernel_rfl) (by simp) ?_
  refine AllReadyH.cons rfl (fun K hK => ?_) AllReadyH.nil
  go_simp
  refine (HF.out _ hU).mono ?_
  rintro e w1 ⟨rfl, u1⟩
  replace hU := hU.trans u1
  replace hs := hs.up u1
  refine hK.out _ _ hs (fun _ => ?_)
  clear hK K
  refine take_to (some 7) (i := 6) (v := .tuple #[.int .i64 (i : Int), .bool true]) rfl rfl (by kernel_rfl) (by kernel_rfl) (by kernel_rfl) (fun _ _ _ h => h) (Or.inl ⟨by kernel_rfl, by intro u hSu; go_simp⟩) hs ?_
  simp only [Act.put, List.setIfInBounds_toArray, List.set_cons_zero, List.set_cons_succ]
  refine take_to (some 14) (i := 7) (v := .int .i64 (i : Int)) rfl rfl (by kernel_rfl) (by kernel_rfl) (by kernel_rfl) (fun _ _ _ h => h) (Or.inl ⟨by kernel_rfl, by intro u hSu; go_simp⟩) hs ?_
  simp only [Act.put, List.setIfInBounds_toArray, List.set_cons_zero, List.set_cons_succ]
  refine take_to (some 15) (i := 8) (v := .bool true) rfl rfl (by kernel_rfl) (by kernel_rfl) (by kernel_rfl) (fun _ _ _ h => h) (Or.inl ⟨by kernel_rfl, by intro u hSu; go_simp⟩) hs ?_
  simp only [Act.put, List.setIfInBounds_toArray, List.set_cons_zero, List.set_cons_succ]
  refine take_to (some 5) (i := 9) (v := .int .i64 (i : Int)) rfl rfl (by kernel_rfl) (by kernel_rfl) (by kernel_rfl) (fun _ _ _ h => h) (Or.inl ⟨by kernel_rfl, by intro u hSu; go_simp⟩) hs ?_
  simp only [Act.put, List.setIfInBounds_toArray, List.set_cons_zero, List.set_cons_succ]
  refine take_to (some 6) (i := 10) (v := .bool true) rfl rfl (by kernel_rfl) (by kernel_rfl) (by kernel_rfl) (fun _ _ _ h => h) (Or.inl ⟨by kernel_rfl, by intro u hSu; go_simp⟩) hs ?_
  simp only [Act.put, List.setIfInBounds_toArray, List.set_cons_zero, List.set_cons_succ]
  refine wpAnyH_done (by kernel_rfl) ?_ _
  clear HF hs0
  obtain ⟨r0, r1, r2, r3, r4, r5, r6, r7, r8, r9, r10⟩ := hs.rc.c11
  obtain ⟨s0, s1, s2⟩ := hs.st.c3
  go_wp2
  go_ret
  exact ⟨rfl, hU⟩

set_option maxRecDepth 20000 in
set_option maxHeartbeats 3200000 in
theorem change_def_full (sb l f N cp i : Nat) (a0 : Option Addr) (fl : Nat) (S : ByteArray) (pk : Int) (rg rs rl rp rt ri rc : Nat) (w : World) (hb : Box w sb #[V l, V f, .slice a0 N cp]) (hi : i ≤ N) (hN : N ≤ 4096)
    (hF : ∀ u, Up w u → Calls Tryd.prog 9 #[.agg #[V l, V f, .slice a0 N cp], .string S] u fun e w' => e = .returned (.tuple #[.int .i64 (i : Int), .bool false]) ∧ Up u w') (hf : 4096 ≤ N) :
    Calls Tryd.prog 48 #[.pointer (some ⟨sb, 0, none⟩), .agg #[.int .i64 1, V fl, .string S, .int .i64 pk, V rg, V rs, V rl, V rp, V rt, V ri, V rc]] w fun e w' => e = .returned (.bool false) ∧ Up w w' := by
  have HF : Hid (∀ u, Up w u → Calls Tryd.prog 9 #[.agg #[V l, V f, .slice a0 N cp], .string S] u fun e w' => e = .returned (.tuple #[.int .i64 (i : Int), .bool false]) ∧ Up u w') := hF
  have b0 : Box (w.alloc (.cells #[.int .i64 1, V fl, .string S, .int .i64 pk, V rg, V rs, V rl, V rp, V rt, V ri, V rc] 39)) w.heap.size #[.int .i64 1, V fl, .string S, .int .i64 pk, V rg, V rs, V rl, V rp, V rt, V ri, V rc] := Box.new _ _ _
  have u0 : Up w (w.alloc (.cells #[.int .i64 1, V fl, .string S, .int .i64 pk, V rg, V rs, V rl, V rp, V rt, V ri, V rc] 39)) := Up.alloc _ _
  have b1 := hb.up u0
  obtain ⟨B, hB⟩ : ∃ B, w.heap.size = B := ⟨_, rfl⟩
  have HB : Hid (w.heap.size = B) := hB
  have hN1 : (N : Int) ≤ 4096 := by omega
  have hi1 : (i : Int) ≤ (N : Int) := by omega
  rw [hB] at b0
  clear hF hb
  go_enter Tryd.func48, Tryd.ntmps48
  go_upto_region 1 with fail
  clear hB
  generalize w.alloc (.cells #[.int .i64 1, V fl, .string S, .int .i64 pk, V rg, V rs, V rl, V rp, V rt, V ri, V rc] 39) = w0 at *
  have hU := u0.trans (Up.drew w0)
  have hs : Sg sb B l f (.slice a0 N cp) #[.int .i64 1, V fl, .string S, .int .i64 pk, V rg, V rs, V rl, V rp, V rt, V ri, V rc] w w0.drew := Sg.up ⟨b1, b0, Touch.of_up u0 _⟩ (Up.drew w0)
  clear u0 b0 b1
  refine wp_region_held_drew (S := Sg sb B l f (.slice a0 N cp) #[.int .i64 1, V fl, .string S, .int .i64 pk, V rg, V rs, V rl, V rp, V rt, V ri, V rc] w) (by kernel_rfl) hs (fun hs0 => ?_)
  refine take_to (some 8) (i := 0) (v := .pointer (some ⟨sb, 0, none⟩)) rfl rfl (by kernel_rfl) (by kernel_rfl) (by kernel_rfl) (fun _ _ _ h => h) (Or.inl ⟨by kernel_rfl, by intro u hSu; go_simp⟩) hs ?_
  simp only [Act.put, List.setIfInBounds_toArray, List.set_cons_zero, List.set_cons_succ]
  refine take_to (some 9) (i := 1) (v := .pointer (some ⟨sb, 0, none⟩)) rfl rfl (by kernel_rfl) (by kernel_rfl) (by kernel_rfl) (fun _ _ _ h => h) (Or.inl ⟨by kernel_rfl, by intro u hSu; go_simp⟩) hs ?_
  simp only [Act.put, List.setIfInBounds_toArray, List.set_cons_zero, List.set_cons_succ]
  refine take_to (some 10) (i := 2) (v := .agg #[V l, V f, .slice a0 N cp]) rfl rfl (by kernel_rfl) (by kernel_rfl) (by kernel_rfl) (fun _ _ _ h => h) (Or.inl ⟨by kernel_rfl, by intro u hSu; obtain ⟨s0, s1, s2⟩ := hSu.st.c3; go_simp⟩) hs ?_
  simp only [Act.put, List.setIfInBounds_toArray, List.set_cons_zero, List.set_cons_succ]
  refine take_to (some 11) (i := 3) (v := .pointer (some ⟨B, 2, none⟩)) rfl rfl (by kernel_rfl) (by kernel_rfl) (by kernel_rfl) (fun _ _ _ h => h) (Or.inl ⟨by kernel_rfl, by intro u hSu; go_simp⟩) hs ?_
  simp only [Act.put, List.setIfInBounds_toArray, List.set_cons_zero, List.set_cons_succ]
  refine take_to (some 12) (i := 4) (v := .string S) rfl rfl (by kernel_rfl) (by kernel_rfl) (by kernel_rfl) (fun _ _ _ h => h) (Or.inl ⟨by kernel_rfl, by intro u hSu; obtain ⟨r0, r1, r2, r3, r4, r5, r6, r7, r8, r9, r10⟩ := hSu.rc.c11; go_simp⟩) hs ?_
  simp only [Act.put, List.setIfInBounds_toArray, List.set_cons_zero, List.set_cons_succ]
  refine wpAnyH_ready (rs := [5]) (by kernel_rfl) (by simp) ?_
  refine AllReadyH.cons rfl (fun K hK => ?_) AllReadyH.nil
  go_simp
  refine (HF.out _ hU).mono ?_
  rintro e w1 ⟨rfl, u1⟩
  replace hU := hU.trans u1
  replace hs := hs.up u1
  refine hK.out _ _ hs (fun _ => ?_)
  clear hK K
  refine take_to (some 7) (i := 6) (v := .tuple #[.int .i64 (i : Int), .bool false]) rfl rfl (by kernel_rfl) (by kernel_rfl) (by kernel_rfl) (fun _ _ _ h => h) (Or.inl ⟨by kernel_rfl, by intro u hSu; go_simp⟩) hs ?_
  simp only [Act.put, List.setIfInBounds_toArray, List.set_cons_zero, List.set_cons_succ]
  refine take_to (some 14) (i := 7) (v := .int .i64 (i : Int)) rfl rfl (by kernel_rfl) (by kernel_rfl) (by kernel_rfl) (fun _ _ _ h => h) (Or.inl ⟨by kernel_rfl, by intro u hSu; go_simp⟩) hs ?_
  simp only [Act.put, List.setIfInBounds_toArray, List.set_cons_zero, List.set_cons_succ]
  refine take_to (some 15) (i := 8) (v := .bool false) rfl rfl (by kernel_rfl) (by kernel_rfl) (by kernel_rfl) (fun _ _ _ h => h) (Or.inl ⟨by kernel_rfl, by intro u hSu; go_simp⟩) hs ?_
  simp only [Act.put, List.setIfInBounds_toArray, List.set_cons_zero, List.set_cons_succ]
  refine take_to (some 5) (i := 9) (v := .int .i64 (i : Int)) rfl rfl (by kernel_rfl) (by kernel_rfl) (by kernel_rfl) (fun _ _ _ h => h) (Or.inl ⟨by kernel_rfl, by intro u hSu; go_simp⟩) hs ?_
  simp only [Act.put, List.setIfInBounds_toArray, List.set_cons_zero, List.set_cons_succ]
  refine take_to (some 6) (i := 10) (v := .bool false) rfl rfl (by kernel_rfl) (by kernel_rfl) (by kernel_rfl) (fun _ _ _ h => h) (Or.inl ⟨by kernel_rfl, by intro u hSu; go_simp⟩) hs ?_
  simp only [Act.put, List.setIfInBounds_toArray, List.set_cons_zero, List.set_cons_succ]
  refine wpAnyH_done (by kernel_rfl) ?_ _
  clear HF hs0
  obtain ⟨r0, r1, r2, r3, r4, r5, r6, r7, r8, r9, r10⟩ := hs.rc.c11
  obtain ⟨s0, s1, s2⟩ := hs.st.c3
  have hf1 : (4096 : Int) ≤ (N : Int) := by omega
  go_wp2
  go_ret
  exact ⟨rfl, hU⟩

set_option maxRecDepth 20000 in
set_option maxHeartbeats 3200000 in
theorem change_del_none (sb l f N cp i : Nat) (a0 : Option Addr) (fl : Nat) (S : ByteArray) (pk : Int) (rg rs rl rp rt ri rc : Nat) (w : World) (hb : Box w sb #[V l, V f, .slice a0 N cp]) (hi : i ≤ N) (hN : N ≤ 4096)
    (hF : ∀ u, Up w u → Calls Tryd.prog 9 #[.agg #[V l, V f, .slice a0 N cp], .string S] u fun e w' => e = .returned (.tuple #[.int .i64 (i : Int), .bool false]) ∧ Up u w') :
    Calls Tryd.prog 48 #[.pointer (some ⟨sb, 0, none⟩), .agg #[.int .i64 2, V fl, .string S, .int .i64 pk, V rg, V rs, V rl, V rp, V rt, V ri, V rc]] w fun e w' => e = .returned (.bool false) ∧ Up w w' := by
  have HF : Hid (∀ u, Up w u → Calls Tryd.prog 9 #[.agg #[V l, V f, .slice a0 N cp], .string S] u fun e w' => e = .returned (.tuple #[.int .i64 (i : Int), .bool false]) ∧ Up u w') := hF
  have b0 : Box (w.alloc (.cells #[.int .i64 2, V fl, .string S, .int .i64 pk, V rg, V rs, V rl, V rp, V rt, V ri, V rc] 39)) w.heap.size #[.int .i64 2, V fl, .string S, .int .i64 pk, V rg, V rs, V rl, V rp, V rt, V ri, V rc] := Box.new _ _ _
  have u0 : Up w (w.alloc (.cells #[.int .i64 2, V fl, .string S, .int .i64 pk, V rg, V rs, V rl, V rp, V rt, V ri, V rc] 39)) := Up.alloc _ _
  have b1 := hb.up u0
  obtain ⟨B, hB⟩ : ∃ B, w.heap.size = B := ⟨_, rfl⟩
  have HB : Hid (w.heap.size = B) := hB
  have hN1 : (N : Int) ≤ 4096 := by omega
  have hi1 : (i : Int) ≤ (N : Int) := by omega
  rw [hB] at b0
  clear hF hb
  go_enter Tryd.func48, Tryd.ntmps48
  go_upto_region 1 with fail
  clear hB
  generalize w.alloc (.cells #[.int .i64 2, V fl, .string S, .int .i64 pk, V rg, V rs, V rl, V rp, V rt, V ri, V rc] 39) = w0 at *
  have hU := u0.trans (Up.drew w0)
  have hs : Sg sb B l f (.slice a0 N cp) #[.int .i64 2, V fl, .string S, .int .i64 pk, V rg, V rs, V rl, V rp, V rt, V ri, V rc] w w0.drew := Sg.up ⟨b1, b0, Touch.of_up u0 _⟩ (Up.drew w0)
  clear u0 b0 b1
  refine wp_region_held_drew (S := Sg sb B l f (.slice a0 N cp) #[.int .i64 2, V fl, .string S, .int .i64 pk, V rg, V rs, V rl, V rp, V rt, V ri, V rc] w) (by kernel_rfl) hs (fun hs0 => ?_)
  refine take_to (some 8) (i := 0) (v := .pointer (some ⟨sb, 0, none⟩)) rfl rfl (by kernel_rfl) (by kernel_rfl) (by kernel_rfl) (fun _ _ _ h => h) (Or.inl ⟨by kernel_rfl, by intro u hSu; go_simp⟩) hs ?_
  simp only [Act.put, List.setIfInBounds_toArray, List.set_cons_zero, List.set_cons_succ]
  refine take_to (some 9) (i := 1) (v := .pointer (some ⟨sb, 0, none⟩)) rfl rfl (by kernel_rfl) (by kernel_rfl) (by kernel_rfl) (fun _ _ _ h => h) (Or.inl ⟨by kernel_rfl, by intro u hSu; go_simp⟩) hs ?_
  simp only [Act.put, List.setIfInBounds_toArray, List.set_cons_zero, List.set_cons_succ]
  refine take_to (some 10) (i := 2) (v := .agg #[V l, V f, .slice a0 N cp]) rfl rfl (by kernel_rfl) (by kernel_rfl) (by kernel_rfl) (fun _ _ _ h => h) (Or.inl ⟨by kernel_rfl, by intro u hSu; obtain ⟨s0, s1, s2⟩ := hSu.st.c3; go_simp⟩) hs ?_
  simp only [Act.put, List.setIfInBounds_toArray, List.set_cons_zero, List.set_cons_succ]
  refine take_to (some 11) (i := 3) (v := .pointer (some ⟨B, 2, none⟩)) rfl rfl (by kernel_rfl) (by kernel_rfl) (by kernel_rfl) (fun _ _ _ h => h) (Or.inl ⟨by kernel_rfl, by intro u hSu; go_simp⟩) hs ?_
  simp only [Act.put, List.setIfInBounds_toArray, List.set_cons_zero, List.set_cons_succ]
  refine take_to (some 12) (i := 4) (v := .string S) rfl rfl (by kernel_rfl) (by kernel_rfl) (by kernel_rfl) (fun _ _ _ h => h) (Or.inl ⟨by kernel_rfl, by intro u hSu; obtain ⟨r0, r1, r2, r3, r4, r5, r6, r7, r8, r9, r10⟩ := hSu.rc.c11; go_simp⟩) hs ?_
  simp only [Act.put, List.setIfInBounds_toArray, List.set_cons_zero, List.set_cons_succ]
  refine wpAnyH_ready (rs := [5]) (by kernel_rfl) (by simp) ?_
  refine AllReadyH.cons rfl (fun K hK => ?_) AllReadyH.nil
  go_simp
  refine (HF.out _ hU).mono ?_
  rintro e w1 ⟨rfl, u1⟩
  replace hU := hU.trans u1
  replace hs := hs.up u1
  refine hK.out _ _ hs (fun _ => ?_)
  clear hK K
  refine take_to (some 7) (i := 6) (v := .tuple #[.int .i64 (i : Int), .bool false]) rfl rfl (by kernel_rfl) (by kernel_rfl) (by kernel_rfl) (fun _ _ _ h => h) (Or.inl ⟨by kernel_rfl, by intro u hSu; go_simp⟩) hs ?_
  simp only [Act.put, List.setIfInBounds_toArray, List.set_cons_zero, List.set_cons_succ]
  refine take_to (some 14) (i := 7) (v := .int .i64 (i : Int)) rfl rfl (by kernel_rfl) (by kernel_rfl) (by kernel_rfl) (fun _ _ _ h => h) (Or.inl ⟨by kernel_rfl, by intro u hSu; go_simp⟩) hs ?_
  simp only [Act.put, List.setIfInBounds_toArray, List.set_cons_zero, List.set_cons_succ]
  refine take_to (some 15) (i := 8) (v := .bool false) rfl rfl (by kernel_rfl) (by kernel_rfl) (by kernel_rfl) (fun _ _ _ h => h) (Or.inl ⟨by kernel_rfl, by intro u hSu; go_simp⟩) hs ?_
  simp only [Act.put, List.setIfInBounds_toArray, List.set_cons_zero, List.set_cons_succ]
  refine take_to (some 5) (i := 9) (v := .int .i64 (i : Int)) rfl rfl (by kernel_rfl) (by kernel_rfl) (by kernel_rfl) (fun _ _ _ h => h) (Or.inl ⟨by kernel_rfl, by intro u hSu; go_simp⟩) hs ?_
  simp only [Act.put, List.setIfInBounds_toArray, List.set_cons_zero, List.set_cons_succ]
  refine take_to (some 6) (i := 10) (v := .bool false) rfl rfl (by kernel_rfl) (by kernel_rfl) (by kernel_rfl) (fun _ _ _ h => h) (Or.inl ⟨by kernel_rfl, by intro u hSu; go_simp⟩) hs ?_
  simp only [Act.put, List.setIfInBounds_toArray, List.set_cons_zero, List.set_cons_succ]
  refine wpAnyH_done (by kernel_rfl) ?_ _
  clear HF hs0
  obtain ⟨r0, r1, r2, r3, r4, r5, r6, r7, r8, r9, r10⟩ := hs.rc.c11
  obtain ⟨s0, s1, s2⟩ := hs.st.c3
  go_wp2
  go_ret
  exact ⟨rfl, hU⟩

set_option maxRecDepth 20000 in
set_option maxHeartbeats 3200000 in
theorem change_ceil_none (sb l f N cp i : Nat) (a0 : Option Addr) (fl : Nat) (S : ByteArray) (pk : Int) (rg rs rl rp rt ri rc : Nat) (w : World) (hb : Box w sb #[V l, V f, .slice a0 N cp]) (hi : i ≤ N) (hN : N ≤ 4096)
    (hF : ∀ u, Up w u → Calls Tryd.prog 9 #[.agg #[V l, V f, .slice a0 N cp], .string S] u fun e w' => e = .returned (.tuple #[.int .i64 (i : Int), .bool false]) ∧ Up u w') :
    Calls Tryd.prog 48 #[.pointer (some ⟨sb, 0, none⟩), .agg #[.int .i64 3, V fl, .string S, .int .i64 pk, V rg, V rs, V rl, V rp, V rt, V ri, V rc]] w fun e w' => e = .returned (.bool false) ∧ Up w w' := by
  have HF : Hid (∀ u, Up w u → Calls Tryd.prog 9 #[.agg #[V l, V f, .slice a0 N cp], .string S] u fun e w' => e = .returned (.tuple #[.int .i64 (i : Int), .bool false]) ∧ Up u w') := hF
  have b0 : Box (w.alloc (.cells #[.int .i64 3, V fl, .string S, .int .i64 pk, V rg, V rs, V rl, V rp, V rt, V ri, V rc] 39)) w.heap.size #[.int .i64 3, V fl, .string S, .int .i64 pk, V rg, V rs, V rl, V rp, V rt, V ri, V rc] := Box.new _ _ _
  have u0 : Up w (w.alloc (.cells #[.int .i64 3, V fl, .string S, .int .i64 pk, V rg, V rs, V rl, V rp, V rt, V ri, V rc] 39)) := Up.alloc _ _
  have b1 := hb.up u0
  obtain ⟨B, hB⟩ : ∃ B, w.heap.size = B := ⟨_, rfl⟩
  have HB : Hid (w.heap.size = B) := hB
  have hN1 : (N : Int) ≤ 4096 := by omega
  have hi1 : (i : Int) ≤ (N : Int) := by omega
  rw [hB] at b0
  clear hF hb
  go_enter Tryd.func48, Tryd.ntmps48
  go_upto_region 1 with fail
  clear hB
  generalize w.alloc (.cells #[.int .i64 3, V fl, .string S, .int .i64 pk, V rg, V rs, V rl, V rp, V rt, V ri, V rc] 39) = w0 at *
  have hU := u0.trans (Up.drew w0)
  have hs : Sg sb B l f (.slice a0 N cp) #[.int .i64 3, V fl, .string S, .int .i64 pk, V rg, V rs, V rl, V rp, V rt, V ri, V rc] w w0.drew := Sg.up ⟨b1, b0, Touch.of_up u0 _⟩ (Up.drew w0)
  clear u0 b0 b1
  refine wp_region_held_drew (S := Sg sb B l f (.slice a0 N cp) #[.int .i64 3, V fl, .string S, .int .i64 pk, V rg, V rs, V rl, V rp, V rt, V ri, V rc] w) (by kernel_rfl) hs (fun hs0 => ?_)
  refine take_to (some 8) (i := 0) (v := .pointer (some ⟨sb, 0, none⟩)) rfl rfl (by kernel_rfl) (by kernel_rfl) (by kernel_rfl) (fun _ _ _ h => h) (Or.inl ⟨by kernel_rfl, by intro u hSu; go_simp⟩) hs ?_
  simp only [Act.put, List.setIfInBounds_toArray, List.set_cons_zero, List.set_cons_succ]
  refine take_to (some 9) (i := 1) (v := .pointer (some ⟨sb, 0, none⟩)) rfl rfl (by kernel_rfl) (by kernel_rfl) (by kernel_rfl) (fun _ _ _ h => h) (Or.inl ⟨by kernel_rfl, by intro u hSu; go_simp⟩) hs ?_
  simp only [Act.put, List.setIfInBounds_toArray, List.set_cons_zero, List.set_cons_succ]
  refine take_to (some 10) (i := 2) (v := .agg #[V l, V f, .slice a0 N cp]) rfl rfl (by kernel_rfl) (by kernel_rfl) (by kernel_rfl) (fun _ _ _ h => h) (Or.inl ⟨by kernel_rfl, by intro u hSu; obtain ⟨s0, s1, s2⟩ := hSu.st.c3; go_simp⟩) hs ?_
  simp only [Act.put, List.setIfInBounds_toArray, List.set_cons_zero, List.set_cons_succ]
  refine take_to (some 11) (i := 3) (v := .pointer (some ⟨B, 2, none⟩)) rfl rfl (by kernel_rfl) (by kernel_rfl) (by kernel_rfl) (fun _ _ _ h => h) (Or.inl ⟨by kernel_rfl, by intro u hSu; go_simp⟩) hs ?_
  simp only [Act.put, List.setIfInBounds_toArray, List.set_cons_zero, List.set_cons_succ]
  refine take_to (some 12) (i := 4) (v := .string S) rfl rfl (by kernel_rfl) (by kernel_rfl) (by kernel_rfl) (fun _ _ _ h => h) (Or.inl ⟨by kernel_rfl, by intro u hSu; obtain ⟨r0, r1, r2, r3, r4, r5, r6, r7, r8, r9, r10⟩ := hSu.rc.c11; go_simp⟩) hs ?_
  simp only [Act.put, List.setIfInBounds_toArray, List.set_cons_zero, List.set_cons_succ]
  refine wpAnyH_ready (rs := [5]) (by kernel_rfl) (by simp) ?_
  refine AllReadyH.cons rfl (fun K hK => ?_) AllReadyH.nil
  go_simp
  refine (HF.out _ hU).mono ?_
  rintro e w1 ⟨rfl, u1⟩
  replace hU := hU.trans u1
  replace hs := hs.up u1
  refine hK.out _ _ hs (fun _ => ?_)
  clear hK K
  refine take_to (some 7) (i := 6) (v := .tuple #[.int .i64 (i : Int), .bool false]) rfl rfl (by kernel_rfl) (by kernel_rfl) (by kernel_rfl) (fun _ _ _ h => h) (Or.inl ⟨by kernel_rfl, by intro u hSu; go_simp⟩) hs ?_
  simp only [Act.put, List.setIfInBounds_toArray, List.set_cons_zero, List.set_cons_succ]
  refine take_to (some 14) (i := 7) (v := .int .i64 (i : Int)) rfl rfl (by kernel_rfl) (by kernel_rfl) (by kernel_rfl) (fun _ _ _ h => h) (Or.inl ⟨by kernel_rfl, by intro u hSu; go_simp⟩) hs ?_
  simp only [Act.put, List.setIfInBounds_toArray, List.set_cons_zero, List.set_cons_succ]
  refine take_to (some 15) (i := 8) (v := .bool false) rfl rfl (by kernel_rfl) (by kernel_rfl) (by kernel_rfl) (fun _ _ _ h => h) (Or.inl ⟨by kernel_rfl, by intro u hSu; go_simp⟩) hs ?_
  simp only [Act.put, List.setIfInBounds_toArray, List.set_cons_zero, List.set_cons_succ]
  refine take_to (some 5) (i := 9) (v := .int .i64 (i : Int)) rfl rfl (by kernel_rfl) (by kernel_rfl) (by kernel_rfl) (fun _ _ _ h => h) (Or.inl ⟨by kernel_rfl, by intro u hSu; go_simp⟩) hs ?_
  simp only [Act.put, List.setIfInBounds_toArray, List.set_cons_zero, List.set_cons_succ]
  refine take_to (some 6) (i := 10) (v := .bool false) rfl rfl (by kernel_rfl) (by kernel_rfl) (by kernel_rfl) (fun _ _ _ h => h) (Or.inl ⟨by kernel_rfl, by intro u hSu; go_simp⟩) hs ?_
  simp only [Act.put, List.setIfInBounds_toArray, List.set_cons_zero, List.set_cons_succ]
  refine wpAnyH_done (by kernel_rfl) ?_ _
  clear HF hs0
  obtain ⟨r0, r1, r2, r3, r4, r5, r6, r7, r8, r9, r10⟩ := hs.rc.c11
  obtain ⟨s0, s1, s2⟩ := hs.st.c3
  go_upto_region 12 with fail
  go_quiet (fail)
  go_wp2
  go_ret
  exact ⟨rfl, hU.trans (up_drewN _ _)⟩

end Go.Proofs.YtdddfapelencoaaDoor

set_option linter.unusedVariables false
set_option linter.unusedSimpArgs false
namespace Go.Proofs.YtdddfapelencoaaDoor
open Go Go.RowKit

set_option maxRecDepth 20000 in
set_option maxHeartbeats 3200000 in
theorem change_del (sb l f N cp i : Nat) (a0 : Option Addr) (fl : Nat) (S : ByteArray) (pk : Int) (rg rs rl rp rt ri rc : Nat) (w : World) (hb : Box w sb #[V l, V f, .slice a0 N cp]) (hi : i ≤ N) (hN : N ≤ 4096)
    (hF : ∀ u, Up w u → Calls Tryd.prog 9 #[.agg #[V l, V f, .slice a0 N cp], .string S] u fun e w' => e = .returned (.tuple #[.int .i64 (i : Int), .bool true]) ∧ Up u w') (base : Nat) (xs : List Ent) (ho : OwnE w base (.slice a0 N cp) xs) (hi2 : i < xs.length) (hlen : xs.length = N) (hsb : sb < base) :
    Calls Tryd.prog 48 #[.pointer (some ⟨sb, 0, none⟩), .agg #[.int .i64 2, V fl, .string S, .int .i64 pk, V rg, V rs, V rl, V rp, V rt, V ri, V rc]] w fun e w' => e = .returned (.bool true) ∧ ∃ v', Box w' sb #[V l, V f, v'] ∧ OwnE w' base v' (xs.take i ++ xs.drop (i + 1)) ∧ Touch w w' (sb :: ob (.slice a0 N cp)) := by
  have HF : Hid (∀ u, Up w u → Calls Tryd.prog 9 #[.agg #[V l, V f, .slice a0 N cp], .string S] u fun e w' => e = .returned (.tuple #[.int .i64 (i : Int), .bool true]) ∧ Up u w') := hF
  have b0 : Box (w.alloc (.cells #[.int .i64 2, V fl, .string S, .int .i64 pk, V rg, V rs, V rl, V rp, V rt, V ri, V rc] 39)) w.heap.size #[.int .i64 2, V fl, .string S, .int .i64 pk, V rg, V rs, V rl, V rp, V rt, V ri, V rc] := Box.new _ _ _
  have u0 : Up w (w.alloc (.cells #[.int .i64 2, V fl, .string S, .int .i64 pk, V rg, V rs, V rl, V rp, V rt, V ri, V rc] 39)) := Up.alloc _ _
  have b1 := hb.up u0
  obtain ⟨B, hB⟩ : ∃ B, w.heap.size = B := ⟨_, rfl⟩
  have HB : Hid (w.heap.size = B) := hB
  have hN1 : (N : Int) ≤ 4096 := by omega
  have hi1 : (i : Int) ≤ (N : Int) := by omega
  rw [hB] at b0
  clear hF hb
  go_enter Tryd.func48, Tryd.ntmps48
  go_upto_region 1 with fail
  clear hB
  generalize w.alloc (.cells #[.int .i64 2, V fl, .string S, .int .i64 pk, V rg, V rs, V rl, V rp, V rt, V ri, V rc] 39) = w0 at *
  have hU := u0.trans (Up.drew w0)
  have hs : Sg sb B l f (.slice a0 N cp) #[.int .i64 2, V fl, .string S, .int .i64 pk, V rg, V rs, V rl, V rp, V rt, V ri, V rc] w w0.drew := Sg.up ⟨b1, b0, Touch.of_up u0 _⟩ (Up.drew w0)
  clear u0 b0 b1
  refine wp_region_held_drew (S := Sg sb B l f (.slice a0 N cp) #[.int .i64 2, V fl, .string S, .int .i64 pk, V rg, V rs, V rl, V rp, V rt, V ri, V rc] w) (by kernel_rfl) hs (fun hs0 => ?_)
  refine take_to (some 8) (i := 0) (v := .pointer (some ⟨sb, 0, none⟩)) rfl rfl (by kernel_rfl) (by kernel_rfl) (by kernel_rfl) (fun _ _ _ h => h) (Or.inl ⟨by kernel_rfl, by intro u hSu; go_simp⟩) hs ?_
  simp only [Act.put, List.setIfInBounds_toArray, List.set_cons_zero, List.set_cons_succ]
  refine take_to (some 9) (i := 1) (v := .pointer (some ⟨sb, 0, none⟩)) rfl rfl (by kernel_rfl) (by kernel_rfl) (by kernel_rfl) (fun _ _ _ h => h) (Or.inl ⟨by kernel_rfl, by intro u hSu; go_simp⟩) hs ?_
  simp only [Act.put, List.setIfInBounds_toArray, List.set_cons_zero, List.set_cons_succ]
  refine take_to (some 10) (i := 2) (v := .agg #[V l, V f, .slice a0 N cp]) rfl rfl (by kernel_rfl) (by kernel_rfl) (by kernel_rfl) (fun _ _ _ h => h) (Or.inl ⟨by kernel_rfl, by intro u hSu; obtain ⟨s0, s1, s2⟩ := hSu.st.c3; go_simp⟩) hs ?_
  simp only [Act.put, List.setIfInBounds_toArray, List.set_cons_zero, List.set_cons_succ]
  refine take_to (some 11) (i := 3) (v := .pointer (some ⟨B, 2, none⟩)) rfl rfl (by kernel_rfl) (by kernel_rfl) (by kernel_rfl) (fun _ _ _ h => h) (Or.inl ⟨by kernel_rfl, by intro u hSu; go_simp⟩) hs ?_
  simp only [Act.put, List.setIfInBounds_toArray, List.set_cons_zero, List.set_cons_succ]
  refine take_to (some 12) (i := 4) (v := .string S) rfl rfl (by kernel_rfl) (by kernel_rfl) (by kernel_rfl) (fun _ _ _ h => h) (Or.inl ⟨by kernel_rfl, by intro u hSu; obtain ⟨r0, r1, r2, r3, r4, r5, r6, r7, r8, r9, r10⟩ := hSu.rc.c11; go_simp⟩) hs ?_
  simp only [Act.put, List.setIfInBounds_toArray, List.set_cons_zero, List.set_cons_succ]
  refine wpAnyH_ready (rs := [5]) (by kernel_rfl) (by simp) ?_
  refine AllReadyH.cons rfl (fun K hK => ?_) AllReadyH.nil
  go_simp
  refine (HF.out _ hU).mono ?_
  rintro e w1 ⟨rfl, u1⟩
  replace hU := hU.trans u1
  replace hs := hs.up u1
  refine hK.out _ _ hs (fun _ => ?_)
  clear hK K
  refine take_to (some 7) (i := 6) (v := .tuple #[.int .i64 (i : Int), .bool true]) rfl rfl (by kernel_rfl) (by kernel_rfl) (by kernel_rfl) (fun _ _ _ h => h) (Or.inl ⟨by kernel_rfl, by intro u hSu; go_simp⟩) hs ?_
  simp only [Act.put, List.setIfInBounds_toArray, List.set_cons_zero, List.set_cons_succ]
  refine take_to (some 14) (i := 7) (v := .int .i64 (i : Int)) rfl rfl (by kernel_rfl) (by kernel_rfl) (by kernel_rfl) (fun _ _ _ h => h) (Or.inl ⟨by kernel_rfl, by intro u hSu; go_simp⟩) hs ?_
  simp only [Act.put, List.setIfInBounds_toArray, List.set_cons_zero, List.set_cons_succ]
  refine take_to (some 15) (i := 8) (v := .bool true) rfl rfl (by kernel_rfl) (by kernel_rfl) (by kernel_rfl) (fun _ _ _ h => h) (Or.inl ⟨by kernel_rfl, by intro u hSu; go_simp⟩) hs ?_
  simp only [Act.put, List.setIfInBounds_toArray, List.set_cons_zero, List.set_cons_succ]
  refine take_to (some 5) (i := 9) (v := .int .i64 (i : Int)) rfl rfl (by kernel_rfl) (by kernel_rfl) (by kernel_rfl) (fun _ _ _ h => h) (Or.inl ⟨by kernel_rfl, by intro u hSu; go_simp⟩) hs ?_
  simp only [Act.put, List.setIfInBounds_toArray, List.set_cons_zero, List.set_cons_succ]
  refine take_to (some 6) (i := 10) (v := .bool true) rfl rfl (by kernel_rfl) (by kernel_rfl) (by kernel_rfl) (fun _ _ _ h => h) (Or.inl ⟨by kernel_rfl, by intro u hSu; go_simp⟩) hs ?_
  simp only [Act.put, List.setIfInBounds_toArray, List.set_cons_zero, List.set_cons_succ]
  refine wpAnyH_done (by kernel_rfl) ?_ _
  clear HF hs0
  obtain ⟨r0, r1, r2, r3, r4, r5, r6, r7, r8, r9, r10⟩ := hs.rc.c11
  obtain ⟨s0, s1, s2⟩ := hs.st.c3
  have ho1 := ho.up hU
  have HD : Hid (∀ u, OwnE u base (.slice a0 N cp) xs → Calls Tryd.prog 65 #[.slice a0 N cp, .int .i64 (i : Int), .int .i64 ((i : Int) + 1)] u fun e w' => ∃ v', e = .returned v' ∧ OwnE w' base v' (xs.take i ++ xs.drop (i + 1)) ∧ ob v' = ob (.slice a0 N cp) ∧ Touch u w' (ob (.slice a0 N cp))) := fun u hu => deleteE_any base _ xs i u hu hi2 (by omega)
  have hsn : sb ∉ ob (.slice a0 N cp) := fun hm => by have := (ho.ge sb hm).1; omega
  have hBn : B ∉ ob (.slice a0 N cp) := fun hm => by have := (ho.ge B hm).2; have := HB.out; omega
  have HH : Hid (Sg sb B l f (.slice a0 N cp) #[.int .i64 2, V fl, .string S, .int .i64 pk, V rg, V rs, V rl, V rp, V rt, V ri, V rc] w w1 ∧ sb ∉ ob (.slice a0 N cp) ∧ B ∉ ob (.slice a0 N cp) ∧ sb < base) := ⟨hs, hsn, hBn, hsb⟩
  clear ho hi2 hlen hsn hBn hsb hs hU
  go_wp2_with fail
  refine (HD.out _ ho1).mono ?_
  rintro e w2 ⟨v', rfl, o2, hob, t2⟩
  have hs2 := HH.out.1.touch t2 HH.out.2.1 HH.out.2.2.1
  obtain ⟨x0, x1, x2⟩ := hs2.st.c3
  have xf := hs2.st.frozen 2
  obtain ⟨a1, c1, rfl⟩ := o2.shape
  have HS2 : Hid (Sg sb B l f (.slice a0 N cp) #[.int .i64 2, V fl, .string S, .int .i64 pk, V rg, V rs, V rl, V rp, V rt, V ri, V rc] w w2 ∧ OwnE w2 base (.slice a1 (xs.take i ++ xs.drop (i + 1)).length c1) (xs.take i ++ xs.drop (i + 1))) := ⟨hs2, o2⟩
  generalize (xs.take i ++ xs.drop (i + 1)).length = M at *
  clear hs2 o2 hob t2 HD ho1
  go_wp2
  go_ret
  have st := HS2.out.1.store (v' := .slice a1 M c1)
  exact ⟨rfl, _, st.1, HS2.out.2.kept ((Touch.refl _ _).setCell (S := [sb]) (.inl (by simp)) _ _) (fun k hk => by have := (HS2.out.2.ge k hk).1; have := HH.out.2.2.2; simp; omega), st.2⟩

end Go.Proofs.YtdddfapelencoaaDoor
