/- state: change, where it refuses (laid by genChg.py). Own work. -/
import Derived.Test.YtffldmeocmemeaaDoorStChg0
set_option linter.unusedVariables false
set_option linter.unusedSimpArgs false
namespace Go.Proofs.YtffldmeocmemeaaDoor
open Go Go.RowKit

set_option maxRecDepth 20000 in
set_option maxHeartbeats 3200000 in
theorem change_def_there (sb l f N cp i : Nat) (a0 : Option Addr) (fl : Nat) (S : ByteArray) (pk : Int) (rg rs rl rp rt ri rc : Nat) (w : World) (hb : Box w sb #[V l, V f, .slice a0 N cp]) (hi : i ≤ N) (hN : N ≤ 4096)
    (hF : ∀ u, Up w u → Calls Tryd.prog 13 #[.agg #[V l, V f, .slice a0 N cp], .string S] u fun e w' => e = .returned (.tuple #[.int .i64 (i : Int), .bool true]) ∧ Up u w') :
    Calls Tryd.prog 59 #[.pointer (some ⟨sb, 0, none⟩), .agg #[.int .i64 1, V fl, .string S, .int .i64 pk, V rg, V rs, V rl, V rp, V rt, V ri, V rc]] w fun e w' => e = .returned (.bool false) ∧ Up w w' := by
  have HF : Hid (∀ u, Up w u → Calls Tryd.prog 13 #[.agg #[V l, V f, .slice a0 N cp], .string S] u fun e w' => e = .returned (.tuple #[.int .i64 (i : Int), .bool true]) ∧ Up u w') := hF
  have b0 : Box (w.alloc (.cells #[.int .i64 1, V fl, .string S, .int .i64 pk, V rg, V rs, V rl, V rp, V rt, V ri, V rc] 39)) w.heap.size #[.int .i64 1, V fl, .string S, .int .i64 pk, V rg, V rs, V rl, V rp, V rt, V ri, V rc] := Box.new _ _ _
  have u0 : Up w (w.alloc (.cells #[.int .i64 1, V fl, .string S, .int .i64 pk, V rg, V rs, V rl, V rp, V rt, V ri, V rc] 39)) := Up.alloc _ _
  have b1 := hb.up u0
  obtain ⟨B, hB⟩ : ∃ B, w.heap.size = B := ⟨_, rfl⟩
  have HB : Hid (w.heap.size = B) := hB
  have hN1 : (N : Int) ≤ 4096 := by omega
  have hi1 : (i : Int) ≤ (N : Int) := by omega
  rw [hB] at b0
  clear hF hb
  go_enter Tryd.func59, Tryd.ntmps59
  go_upto_region 1 with fail
  clear hB
  generalize w.alloc (.cells #[.int .i64 1, V fl, .string S, .int .i64 pk, V rg, V rs, V rl, V rp, V rt, V ri, V rc] 39) = w0 at *
  have hU := u0.trans (Up.drew w0)
  have hs : Sg sb B l f (.slice a0 N cp) #[.int .i64 1, V fl, .string S, .int .i64 pk, V rg, V rs, V rl, V rp, V rt, V ri, V rc] w w0.drew := Sg.up ⟨b1, b0, Touch.of_up u0 _⟩ (Up.drew w0)
  clear u0 b0 b1
  refine wp_region_held_drew (S := Sg sb B l f (.slice a0 N cp) #[.int .i64 1, V fl, .string S, .int .i64 pk, V rg, V rs, V rl, V rp, V rt, V ri, V rc] w) (by kernel_rfl) hs (fun hs0 => ?_)
  refine take_to (some 8) (i := 0) (v := .pointer (some ⟨sb, 0, none⟩)) rfl rfl (by kernel_rfl) (by kernel_rfl) (by kernel_rfl) (fun _ _ _ h => h) (Or.inl ⟨by kernel_rfl, by intro u hSu; go_simp⟩) hs ?_
  simp only [Act.put, List.setIfInBounds_toArray, List.set_cons_zero, List.set_cons_succ]
  refine take_to (some 9) (i := 1) (v := .pointer (some ⟨sb, 0, none⟩)) rfl rfl (by kernel_rfl) (by kernel_rfl) (by kernel_rfl) (fun _ _ _ h => h) (Or.inl ⟨by kernel_rfl, by intro u hSu; go_simp⟩) hs ?_
  simp only [Act.put, List.setIfInBounds_toArray, List.set_cons_zero, List.set_cons_succ]
  refine take_to (some 10) (i := 2) (v := .agg #[V l, V f, .slice a0 N cp]) rfl rfl (by kernel_rfl) (by kernel_rfl) (by kernel_rfl) (fun _ _ _ h => h) (Or.inl ⟨by kernel_rfl, by intro u hSu; obtain ⟨s0, s1, s2⟩ := hSu.st.c3; go_simp⟩) hs ?_
  simp only [Act.put, List.setIfInBounds_toArray, List.set_cons_zero, List.set_cons_succ]
  refine take_to (some 11) (i := 3) (v := .pointer (some ⟨B, 2, none⟩)) rfl rfl (by kernel_rfl) (by kernel_rfl) (by kernel_rfl) (fun _ _ _ h => h) (Or.inl ⟨by kernel_rfl, by intro u hSu; go_simp⟩) hs ?_
  simp only [Act.put, List.setIfInBounds_toArray, List.set_cons_zero, List.set_cons_succ]
  refine take_to (some 12) (i := 4) (v := .string S) rfl rfl (by kernel_rfl) (by kernel_rfl) (by kernel_rfl) (fun _ _ _ h => h) (Or.inl ⟨by kernel_rfl, by intro u hSu; obtain ⟨r0, r1, r2, r3, r4, r5, r6, r7, r8, r9, r10⟩ := hSu.rc.c11; go_simp⟩) hs ?_
  simp only [Act.put, List.setIfInBounds_toArray, List.set_cons_zero, List.set_cons_succ]
  refine wpAnyH_ready (rs := [5]) (by kernel_rfl) (by simp) ?_
  refine AllReadyH.cons rfl (fun K hK => ?_) AllReadyH.nil
  go_simp
  refine (HF.out _ hU).mono ?_
  rintro e w1 ⟨rfl, u1⟩
  replace hU := hU.trans u1
  replace hs := hs.up u1
  refine hK.out _ _ hs (fun _ => ?_)
  clear hK K
  refine take_to (some 7) (i := 6) (v := .tuple #[.int .i64 (i : Int), .bool true]) rfl rfl (by kernel_rfl) (by kernel_rfl) (by kernel_rfl) (fun _ _ _ h => h) (Or.inl ⟨by kernel_rfl, by intro u hSu; go_simp⟩) hs ?_
  simp only [Act.put, List.setIfInBounds_toArray, List.set_cons_zero, List.set_cons_succ]
  refine take_to (some 14) (i := 7) (v := .int .i64 (i : Int)) rfl rfl (by kernel_rfl) (by kernel_rfl) (by kernel_rfl) (fun _ _ _ h => h) (Or.inl ⟨by kernel_rfl, by intro u hSu; go_simp⟩) hs ?_
  simp only [Act.put, List.setIfInBounds_toArray, List.set_cons_zero, List.set_cons_succ]
  refine take_to (some 15) (i := 8) (v := .bool true) rfl rfl (by kernel_rfl) (by kernel_rfl) (by kernel_rfl) (fun _ _ _ h => h) (Or.inl ⟨by kernel_rfl, by intro u hSu; go_simp⟩) hs ?_
  simp only [Act.put, List.setIfInBounds_toArray, List.set_cons_zero, List.set_cons_succ]
  refine take_to (some 5) (i := 9) (v := .int .i64 (i : Int)) rfl rfl (by kernel_rfl) (by kernel_rfl) (by kernel_rfl) (fun _ _ _ h => h) (Or.inl ⟨by kernel_rfl, by intro u hSu; go_simp⟩) hs ?_
  simp only [Act.put, List.setIfInBounds_toArray, List.set_cons_zero, List.set_cons_succ]
  refine take_to (some 6) (i := 10) (v := .bool true) rfl rfl (by kernel_rfl) (by kernel_rfl) (by kernel_rfl) (fun _ _ _ h => h) (Or.inl ⟨by kernel_rfl, by intro u hSu; go_simp⟩) hs ?_
  simp only [Act.put, List.setIfInBounds_toArray, List.set_cons_zero, List.set_cons_succ]
  refine wpAnyH_done (by kernel_rfl) ?_ _
  clear HF hs0
  obtain ⟨r0, r1, r2, r3, r4, r5, r6, r7, r8, r9, r10⟩ := hs.rc.c11
  obtain ⟨s0, s1, s2⟩ := hs.st.c3
  go_wp2
  go_ret
  exact ⟨rfl, hU⟩

set_option maxRecDepth 20000 in
set_option maxHeartbeats 3200000 in
theorem change_def_full (sb l f N cp i : Nat) (a0 : Option Addr) (fl : Nat) (S : ByteArray) (pk : Int) (rg rs rl rp rt ri rc : Nat) (w : World) (hb : Box w sb #[V l, V f, .slice a0 N cp]) (hi : i ≤ N) (hN : N ≤ 4096)
    (hF : ∀ u, Up w u → Calls Tryd.prog 13 #[.agg #[V l, V f, .slice a0 N cp], .string S] u fun e w' => e = .returned (.tuple #[.int .i64 (i : Int), .bool false]) ∧ Up u w') (hf : 4096 ≤ N) :
    Calls Tryd.prog 59 #[.pointer (some ⟨sb, 0, none⟩), .agg #[.int .i64 1, V fl, .string S, .int .i64 pk, V rg, V rs, V rl, V rp, V rt, V ri, V rc]] w fun e w' => e = .returned (.bool false) ∧ Up w w' := by
  have HF : Hid (∀ u, Up w u → Calls Tryd.prog 13 #[.agg #[V l, V f, .slice a0 N cp], .string S] u fun e w' => e = .returned (.tuple #[.int .i64 (i : Int), .bool false]) ∧ Up u w') := hF
  have b0 : Box (w.alloc (.cells #[.int .i64 1, V fl, .string S, .int .i64 pk, V rg, V rs, V rl, V rp, V rt, V ri, V rc] 39)) w.heap.size #[.int .i64 1, V fl, .string S, .int .i64 pk, V rg, V rs, V rl, V rp, V rt, V ri, V rc] := Box.new _ _ _
  have u0 : Up w (w.alloc (.cells #[.int .i64 1, V fl, .string S, .int .i64 pk, V rg, V rs, V rl, V rp, V rt, V ri, V rc] 39)) := Up.alloc _ _
  have b1 := hb.up u0
  obtain ⟨B, hB⟩ : ∃ B, w.heap.size = B := ⟨_, rfl⟩
  have HB : Hid (w.heap.size = B) := hB
  have hN1 : (N : Int) ≤ 4096 := by omega
  have hi1 : (i : Int) ≤ (N : Int) := by omega
  rw [hB] at b0
  clear hF hb
  go_enter Tryd.func59, Tryd.ntmps59
  go_upto_region 1 with fail
  clear hB
  generalize w.alloc (.cells #[.int .i64 1, V fl, .string S, .int .i64 pk, V rg, V rs, V rl, V rp, V rt, V ri, V rc] 39) = w0 at *
  have hU := u0.trans (Up.drew w0)
  have hs : Sg sb B l f (.slice a0 N cp) #[.int .i64 1, V fl, .string S, .int .i64 pk, V rg, V rs, V rl, V rp, V rt, V ri, V rc] w w0.drew := Sg.up ⟨b1, b0, Touch.of_up u0 _⟩ (Up.drew w0)
  clear u0 b0 b1
  refine wp_region_held_drew (S := Sg sb B l f (.slice a0 N cp) #[.int .i64 1, V fl, .string S, .int .i64 pk, V rg, V rs, V rl, V rp, V rt, V ri, V rc] w) (by kernel_rfl) hs (fun hs0 => ?_)
  refine take_to (some 8) (i := 0) (v := .pointer (some ⟨sb, 0, none⟩)) rfl rfl (by kernel_rfl) (by kernel_rfl) (by kernel_rfl) (fun _ _ _ h => h) (Or.inl ⟨by kernel_rfl, by intro u hSu; go_simp⟩) hs ?_
  simp only [Act.put, List.setIfInBounds_toArray, List.set_cons_zero, List.set_cons_succ]
  refine take_to (some 9) (i := 1) (v := .pointer (some ⟨sb, 0, none⟩)) rfl rfl (by kernel_rfl) (by kernel_rfl) (by kernel_rfl) (fun _ _ _ h => h) (Or.inl ⟨by kernel_rfl, by intro u hSu; go_simp⟩) hs ?_
  simp only [Act.put, List.setIfInBounds_toArray, List.set_cons_zero, List.set_cons_succ]
  refine take_to (some 10) (i := 2) (v := .agg #[V l, V f, .slice a0 N cp]) rfl rfl (by kernel_rfl) (by kernel_rfl) (by kernel_rfl) (fun _ _ _ h => h) (Or.inl ⟨by kernel_rfl, by intro u hSu; obtain ⟨s0, s1, s2⟩ := hSu.st.c3; go_simp⟩) hs ?_
  simp only [Act.put, List.setIfInBounds_toArray, List.set_cons_zero, List.set_cons_succ]
  refine take_to (some 11) (i := 3) (v := .pointer (some ⟨B, 2, none⟩)) rfl rfl (by kernel_rfl) (by kernel_rfl) (by kernel_rfl) (fun _ _ _ h => h) (Or.inl ⟨by kernel_rfl, by intro u hSu; go_simp⟩) hs ?_
  simp only [Act.put, List.setIfInBounds_toArray, List.set_cons_zero, List.set_cons_succ]
  refine take_to (some 12) (i := 4) (v := .string S) rfl rfl (by kernel_rfl) (by kernel_rfl) (by kernel_rfl) (fun _ _ _ h => h) (Or.inl ⟨by kernel_rfl, by intro u hSu; obtain ⟨r0, r1, r2, r3, r4, r5, r6, r7, r8, r9, r10⟩ := hSu.rc.c11; go_simp⟩) hs ?_
  simp only [Act.put, List.setIfInBounds_toArray, List.set_cons_zero, List.set_cons_succ]
  refine wpAnyH_ready (rs := [5]) (by kernel_rfl) (by simp) ?_
  refine AllReadyH.cons rfl (fun K hK => ?_) AllReadyH.nil
  go_simp
  refine (HF.out _ hU).mono ?_
  rintro e w1 ⟨rfl, u1⟩
  replace hU := hU.trans u1
  replace hs := hs.up u1
  refine hK.out _ _ hs (fun _ => ?_)
  clear hK K
  refine take_to (some 7) (i := 6) (v := .tuple #[.int .i64 (i : Int), .bool false]) rfl rfl (by kernel_rfl) (by kernel_rfl) (by kernel_rfl) (fun _ _ _ h => h) (Or.inl ⟨by kernel_rfl, by intro u hSu; go_simp⟩) hs ?_
  simp only [Act.put, List.setIfInBounds_toArray, List.set_cons_zero, List.set_cons_succ]
  refine take_to (some 14) (i := 7) (v := .int .i64 (i : Int)) rfl rfl (by kernel_rfl) (by kernel_rfl) (by kernel_rfl) (fun _ _ _ h => h) (Or.inl ⟨by kernel_rfl, by intro u hSu; go_simp⟩) hs ?_
  simp only [Act.put, List.setIfInBounds_toArray, List.set_cons_zero, List.set_cons_succ]
  refine take_to (some 15) (i := 8) (v := .bool false) rfl rfl (by kernel_rfl) (by kernel_rfl) (by kernel_rfl) (fun _ _ _ h => h) (Or.inl ⟨by kernel_rfl, by intro u hSu; go_simp⟩) hs ?_
  simp only [Act.put, List.setIfInBounds_toArray, List.set_cons_zero, List.set_cons_succ]
  refine take_to (some 5) (i := 9) (v := .int .i64 (i : Int)) rfl rfl (by kernel_rfl) (by kernel_rfl) (by kernel_rfl) (fun _ _ _ h => h) (Or.inl ⟨by kernel_rfl, by intro u hSu; go_simp⟩) hs ?_
  simp only [Act.put, List.setIfInBounds_toArray, List.set_cons_zero, List.set_cons_succ]
  refine take_to (some 6) (i := 10) (v := .bool false) rfl rfl (by kernel_rfl) (by kernel_rfl) (by kernel_rfl) (fun _ _ _ h => h) (Or.inl ⟨by kernel_rfl, by intro u hSu; go_simp⟩) hs ?_
  simp only [Act.put, List.setIfInBounds_toArray, List.set_cons_zero, List.set_cons_succ]
  refine wpAnyH_done (by kernel_rfl) ?_ _
  clear HF hs0
  obtain ⟨r0, r1, r2, r3, r4, r5, r6, r7, r8, r9, r10⟩ := hs.rc.c11
  obtain ⟨s0, s1, s2⟩ := hs.st.c3
  have hf1 : (4096 : Int) ≤ (N : Int) := by omega
  go_wp2
  go_ret
  exact ⟨rfl, hU⟩

set_option maxRecDepth 20000 in
set_option maxHeartbeats 3200000 in
theorem change_del_none (sb l f N cp i : Nat) (a0 : Option Addr) (fl : Nat) (S : ByteArray) (pk : Int) (rg rs rl rp rt ri rc : Nat) (w : World) (hb : Box w sb #[V l, V f, .slice a0 N cp]) (hi : i ≤ N) (hN : N ≤ 4096)
    (hF : ∀ u, Up w u → Calls Tryd.prog 13 #[.agg #[V l, V f, .slice a0 N cp], .string S] u fun e w' => e = .returned (.tuple #[.int .i64 (i : Int), .bool false]) ∧ Up u w') :
    Calls Tryd.prog 59 #[.pointer (some ⟨sb, 0, none⟩), .agg #[.int .i64 2, V fl, .string S, .int .i64 pk, V rg, V rs, V rl, V rp, V rt, V ri, V rc]] w fun e w' => e = .returned (.bool false) ∧ Up w w' := by
  have HF : Hid (∀ u, Up w u → Calls Tryd.prog 13 #[.agg #[V l, V f, .slice a0 N cp], .string S] u fun e w' => e = .returned (.tuple #[.int .i64 (i : Int), .bool false]) ∧ Up u w') := hF
  have b0 : Box (w.alloc (.cells #[.int .i64 2, V fl, .string S, .int .i64 pk, V rg, V rs, V rl, V rp, V rt, V ri, V rc] 39)) w.heap.size #[.int .i64 2, V fl, .string S, .int .i64 pk, V rg, V rs, V rl, V rp, V rt, V ri, V rc] := Box.new _ _ _
  have u0 : Up w (w.alloc (.cells #[.int .i64 2, V fl, .string S, .int .i64 pk, V rg, V rs, V rl, V rp, V rt, V ri, V rc] 39)) := Up.alloc _ _
  have b1 := hb.up u0
  obtain ⟨B, hB⟩ : ∃ B, w.heap.size = B := ⟨_, rfl⟩
  have HB : Hid (w.heap.size = B) := hB
  have hN1 : (N : Int) ≤ 4096 := by omega
  have hi1 : (i : Int) ≤ (N : Int) := by omega
  rw [hB] at b0
  clear hF hb
  go_enter Tryd.func59, Tryd.ntmps59
  go_upto_region 1 with fail
  clear hB
  generalize w.alloc (.cells #[.int .i64 2, V fl, .string S, .int .i64 pk, V rg, V rs, V rl, V rp, V rt, V ri, V rc] 39) = w0 at *
  have hU := u0.trans (Up.drew w0)
  have hs : Sg sb B l f (.slice a0 N cp) #[.int .i64 2, V fl, .string S, .int .i64 pk, V rg, V rs, V rl, V rp, V rt, V ri, V rc] w w0.drew := Sg.up ⟨b1, b0, Touch.of_up u0 _⟩ (Up.drew w0)
  clear u0 b0 b1
  refine wp_region_held_drew (S := Sg sb B l f (.slice a0 N cp) #[.int .i64 2, V fl, .string S, .int .i64 pk, V rg, V rs, V rl, V rp, V rt, V ri, V rc] w) (by kernel_rfl) hs (fun hs0 => ?_)
  refine take_to (some 8) (i := 0) (v := .pointer (some ⟨sb, 0, none⟩)) rfl rfl (by kernel_rfl) (by kernel_rfl) (by kernel_rfl) (fun _ _ _ h => h) (Or.inl ⟨by kernel_rfl, by intro u hSu; go_simp⟩) hs ?_
  simp only [Act.put, List.setIfInBounds_toArray, List.set_cons_zero, List.set_cons_succ]
  refine take_to (some 9) (i := 1) (v := .pointer (some ⟨sb, 0, none⟩)) rfl rfl (by kernel_rfl) (by kernel_rfl) (by kernel_rfl) (fun _ _ _ h => h) (Or.inl ⟨by kernel_rfl, by intro u hSu; go_simp⟩) hs ?_
  simp only [Act.put, List.setIfInBounds_toArray, List.set_cons_zero, List.set_cons_succ]
  refine take_to (some 10) (i := 2) (v := .agg #[V l, V f, .slice a0 N cp]) rfl rfl (by kernel_rfl) (by kernel_rfl) (by kernel_rfl) (fun _ _ _ h => h) (Or.inl ⟨by kernel_rfl, by intro u hSu; obtain ⟨s0, s1, s2⟩ := hSu.st.c3; go_simp⟩) hs ?_
  simp only [Act.put, List.setIfInBounds_toArray, List.set_cons_zero, List.set_cons_succ]
  refine take_to (some 11) (i := 3) (v := .pointer (some ⟨B, 2, none⟩)) rfl rfl (by kernel_rfl) (by kernel_rfl) (by kernel_rfl) (fun _ _ _ h => h) (Or.inl ⟨by kernel_rfl, by intro u hSu; go_simp⟩) hs ?_
  simp only [Act.put, List.setIfInBounds_toArray, List.set_cons_zero, List.set_cons_succ]
  refine take_to (some 12) (i := 4) (v := .string S) rfl rfl (by kernel_rfl) (by kernel_rfl) (by kernel_rfl) (fun _ _ _ h => h) (Or.inl ⟨by kernel_rfl, by intro u hSu; obtain ⟨r0, r1, r2, r3, r4, r5, r6, r7, r8, r9, r10⟩ := hSu.rc.c11; go_simp⟩) hs ?_
  simp only [Act.put, List.setIfInBounds_toArray, List.set_cons_zero, List.set_cons_succ]
  refine wpAnyH_ready (rs := [5]) (by kernel_rfl) (by simp) ?_
  refine AllReadyH.cons rfl (fun K hK => ?_) AllReadyH.nil
  go_simp
  refine (HF.out _ hU).mono ?_
  rintro e w1 ⟨rfl, u1⟩
  replace hU := hU.trans u1
  replace hs := hs.up u1
  refine hK.out _ _ hs (fun _ => ?_)
  clear hK K
  refine take_to (some 7) (i := 6) (v := .tuple #[.int .i64 (i : Int), .bool false]) rfl rfl (by kernel_rfl) (by kernel_rfl) (by kernel_rfl) (fun _ _ _ h => h) (Or.inl ⟨by kernel_rfl, by intro u hSu; go_simp⟩) hs ?_
  simp only [Act.put, List.setIfInBounds_toArray, List.set_cons_zero, List.set_cons_succ]
  refine take_to (some 14) (i := 7) (v := .int .i64 (i : Int)) rfl rfl (by kernel_rfl) (by kernel_rfl) (by kernel_rfl) (fun _ _ _ h => h) (Or.inl ⟨by kernel_rfl, by intro u hSu; go_simp⟩) hs ?_
  simp only [Act.put, List.setIfInBounds_toArray, List.set_cons_zero, List.set_cons_succ]
  refine take_to (some 15) (i := 8) (v := .bool false) rfl rfl (by kernel_rfl) (by kernel_rfl) (by kernel_rfl) (fun _ _ _ h => h) (Or.inl ⟨by kernel_rfl, by intro u hSu; go_simp⟩) hs ?_
  simp only [Act.put, List.setIfInBounds_toArray, List.set_cons_zero, List.set_cons_succ]
  refine take_to (some 5) (i := 9) (v := .int .i64 (i : Int)) rfl rfl (by kernel_rfl) (by kernel_rfl) (by kernel_rfl) (fun _ _ _ h => h) (Or.inl ⟨by kernel_rfl, by intro u hSu; go_simp⟩) hs ?_
  simp only [Act.put, List.setIfInBounds_toArray, List.set_cons_zero, List.set_cons_succ]
  refine take_to (some 6) (i := 10) (v := .bool false) rfl rfl (by kernel_rfl) (by kernel_rfl) (by kernel_rfl) (fun _ _ _ h => h) (Or.inl ⟨by kernel_rfl, by intro u hSu; go_simp⟩) hs ?_
  simp only [Act.put, List.setIfInBounds_toArray, List.set_cons_zero, List.set_cons_succ]
  refine wpAnyH_done (by kernel_rfl) ?_ _
  clear HF hs0
  obtain ⟨r0, r1, r2, r3, r4, r5, r6, r7, r8, r9, r10⟩ := hs.rc.c11
  obtain ⟨s0, s1, s2⟩ := hs.st.c3
  go_wp2
  go_ret
  exact ⟨rfl, hU⟩

set_option maxRecDepth 20000 in
set_option maxHeartbeats 3200000 in
theorem change_ceil_none (sb l f N cp i : Nat) (a0 : Option Addr) (fl : Nat) (S : ByteArray) (pk : Int) (rg rs rl rp rt ri rc : Nat) (w : World) (hb : Box w sb #[V l, V f, .slice a0 N cp]) (hi : i ≤ N) (hN : N ≤ 4096)
    (hF : ∀ u, Up w u → Calls Tryd.prog 13 #[.agg #[V l, V f, .slice a0 N cp], .string S] u fun e w' => e = .returned (.tuple #[.int .i64 (i : Int), .bool false]) ∧ Up u w') :
    Calls Tryd.prog 59 #[.pointer (some ⟨sb, 0, none⟩), .agg #[.int .i64 3, V fl, .string S, .int .i64 pk, V rg, V rs, V rl, V rp, V rt, V ri, V rc]] w fun e w' => e = .returned (.bool false) ∧ Up w w' := by
  have HF : Hid (∀ u, Up w u → Calls Tryd.prog 13 #[.agg #[V l, V f, .slice a0 N cp], .string S] u fun e w' => e = .returned (.tuple #[.int .i64 (i : Int), .bool false]) ∧ Up u w') := hF
  have b0 : Box (w.alloc (.cells #[.int .i64 3, V fl, .string S, .int .i64 pk, V rg, V rs, V rl, V rp, V rt, V ri, V rc] 39)) w.heap.size #[.int .i64 3, V fl, .string S, .int .i64 pk, V rg, V rs, V rl, V rp, V rt, V ri, V rc] := Box.new _ _ _
  have u0 : Up w (w.alloc (.cells #[.int .i64 3, V fl, .string S, .int .i64 pk, V rg, V rs, V rl, V rp, V rt, V ri, V rc] 39)) := Up.alloc _ _
  have b1 := hb.up u0
  obtain ⟨B, hB⟩ : ∃ B, w.heap.size = B := ⟨_, rfl⟩
  have HB : Hid (w.heap.size = B) := hB
  have hN1 : (N : Int) ≤ 4096 := by omega
  have hi1 : (i : Int) ≤ (N : Int) := by omega
  rw [hB] at b0
  clear hF hb
  go_enter Tryd.func59, Tryd.ntmps59
  go_upto_region 1 with fail
  clear hB
  generalize w.alloc (.cells #[.int .i64 3, V fl, .string S, .int .i64 pk, V rg, V rs, V rl, V rp, V rt, V ri, V rc] 39) = w0 at *
  have hU := u0.trans (Up.drew w0)
  have hs : Sg sb B l f (.slice a0 N cp) #[.int .i64 3, V fl, .string S, .int .i64 pk, V rg, V rs, V rl, V rp, V rt, V ri, V rc] w w0.drew := Sg.up ⟨b1, b0, Touch.of_up u0 _⟩ (Up.drew w0)
  clear u0 b0 b1
  refine wp_region_held_drew (S := Sg sb B l f (.slice a0 N cp) #[.int .i64 3, V fl, .string S, .int .i64 pk, V rg, V rs, V rl, V rp, V rt, V ri, V rc] w) (by kernel_rfl) hs (fun hs0 => ?_)
  refine take_to (some 8) (i := 0) (v := .pointer (some ⟨sb, 0, none⟩)) rfl rfl (by kernel_rfl) (by kernel_rfl) (by kernel_rfl) (fun _ _ _ h => h) (Or.inl ⟨by kernel_rfl, by intro u hSu; go_simp⟩) hs ?_
  simp only [Act.put, List.setIfInBounds_toArray, List.set_cons_zero, List.set_cons_succ]
  refine take_to (some 9) (i := 1) (v := .pointer (some ⟨sb, 0, none⟩)) rfl rfl (by kernel_rfl) (by kernel_rfl) (by kernel_rfl) (fun _ _ _ h => h) (Or.inl ⟨by kernel_rfl, by intro u hSu; go_simp⟩) hs ?_
  simp only [Act.put, List.setIfInBounds_toArray, List.set_cons_zero, List.set_cons_succ]
  refine take_to (some 10) (i := 2) (v := .agg #[V l, V f, .slice a0 N cp]) rfl rfl (by kernel_rfl) (by kernel_rfl) (by kernel_rfl) (fun _ _ _ h => h) (Or.inl ⟨by kernel_rfl, by intro u hSu; obtain ⟨s0, s1, s2⟩ := hSu.st.c3; go_simp⟩) hs ?_
  simp only [Act.put, List.setIfInBounds_toArray, List.set_cons_zero, List.set_cons_succ]
  refine take_to (some 11) (i := 3) (v := .pointer (some ⟨B, 2, none⟩)) rfl rfl (by kernel_rfl) (by kernel_rfl) (by kernel_rfl) (fun _ _ _ h => h) (Or.inl ⟨by kernel_rfl, by intro u hSu; go_simp⟩) hs ?_
  simp only [Act.put, List.setIfInBounds_toArray, List.set_cons_zero, List.set_cons_succ]
  refine take_to (some 12) (i := 4) (v := .string S) rfl rfl (by kernel_rfl) (by kernel_rfl) (by kernel_rfl) (fun _ _ _ h => h) (Or.inl ⟨by kernel_rfl, by intro u hSu; obtain ⟨r0, r1, r2, r3, r4, r5, r6, r7, r8, r9, r10⟩ := hSu.rc.c11; go_simp⟩) hs ?_
  simp only [Act.put, List.setIfInBounds_toArray, List.set_cons_zero, List.set_cons_succ]
  refine wpAnyH_ready (rs := [5]) (by kernel_rfl) (by simp) ?_
  refine AllReadyH.cons rfl (fun K hK => ?_) AllReadyH.nil
  go_simp
  refine (HF.out _ hU).mono ?_
  rintro e w1 ⟨rfl, u1⟩
  replace hU := hU.trans u1
  replace hs := hs.up u1
  refine hK.out _ _ hs (fun _ => ?_)
  clear hK K
  refine take_to (some 7) (i := 6) (v := .tuple #[.int .i64 (i : Int), .bool false]) rfl rfl (by kernel_rfl) (by kernel_rfl) (by kernel_rfl) (fun _ _ _ h => h) (Or.inl ⟨by kernel_rfl, by intro u hSu; go_simp⟩) hs ?_
  simp only [Act.put, List.setIfInBounds_toArray, List.set_cons_zero, List.set_cons_succ]
  refine take_to (some 14) (i := 7) (v := .int .i64 (i : Int)) rfl rfl (by kernel_rfl) (by kernel_rfl) (by kernel_rfl) (fun _ _ _ h => h) (Or.inl ⟨by kernel_rfl, by intro u hSu; go_simp⟩) hs ?_
  simp only [Act.put, List.setIfInBounds_toArray, List.set_cons_zero, List.set_cons_succ]
  refine take_to (some 15) (i := 8) (v := .bool false) rfl rfl (by kernel_rfl) (by kernel_rfl) (by kernel_rfl) (fun _ _ _ h => h) (Or.inl ⟨by kernel_rfl, by intro u hSu; go_simp⟩) hs ?_
  simp only [Act.put, List.setIfInBounds_toArray, List.set_cons_zero, List.set_cons_succ]
  refine take_to (some 5) (i := 9) (v := .int .i64 (i : Int)) rfl rfl (by kernel_rfl) (by kernel_rfl) (by kernel_rfl) (fun _ _ _ h => h) (Or.inl ⟨by kernel_rfl, by intro u hSu; go_simp⟩) hs ?_
  simp only [Act.put, List.setIfInBounds_toArray, List.set_cons_zero, List.set_cons_succ]
  refine take_to (some 6) (i := 10) (v := .bool false) rfl rfl (by kernel_rfl) (by kernel_rfl) (by kernel_rfl) (fun _ _ _ h => h) (Or.inl ⟨by kernel_rfl, by intro u hSu; go_simp⟩) hs ?_
  simp only [Act.put, List.setIfInBounds_toArray, List.set_cons_zero, List.set_cons_succ]
  refine wpAnyH_done (by kernel_rfl) ?_ _
  clear HF hs0
  obtain ⟨r0, r1, r2, r3, r4, r5, r6, r7, r8, r9, r10⟩ := hs.rc.c11
  obtain ⟨s0, s1, s2⟩ := hs.st.c3
  go_upto_region 12 with fail
  go_quiet (fail)
  go_wp2
  go_ret
  exact ⟨rfl, hU.trans (up_drewN _ _)⟩

end Go.Proofs.YtffldmeocmemeaaDoor
