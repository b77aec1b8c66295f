/- Merged: StRfA, StRfB, StRfC. -/
import Derived.Test.YtdddfapelencoaaDoorStRf0
set_option linter.unusedVariables false
set_option linter.unusedSimpArgs false
namespace Go.Proofs.YtdddfapelencoaaDoor
open Go Go.RowKit

set_option maxRecDepth 20000 in
set_option maxHeartbeats 6400000 in
theorem rstep_arg (sb l f n N cp i : Nat) (a0 : Option Addr) (k : Int) (fl : Nat) (S : ByteArray) (pk : Int) (rg rs rl rp rt ri rc : Nat) (w : World) (hb : Box w sb #[V l, V f, .slice a0 N cp])
    (hV : ∀ u, Calls Tryd.prog 38 #[.agg #[.int .i64 k, V fl, .string S, .int .i64 pk, V rg, V rs, V rl, V rp, V rt, V ri, V rc]] u fun e w' => e = .returned (.bool false) ∧ Up u w') :
    Calls Tryd.prog 31 #[.pointer (some ⟨sb, 0, none⟩), V n, .agg #[.int .i64 k, V fl, .string S, .int .i64 pk, V rg, V rs, V rl, V rp, V rt, V ri, V rc]] w fun e w' => e = .returned (.int .i64 1) ∧ Up w w' := by
  have HV : Hid (∀ u, Calls Tryd.prog 38 #[.agg #[.int .i64 k, V fl, .string S, .int .i64 pk, V rg, V rs, V rl, V rp, V rt, V ri, V rc]] u fun e w' => e = .returned (.bool false) ∧ Up u w') := hV
  have b0 : Box (w.alloc (.cells #[.int .i64 k, V fl, .string S, .int .i64 pk, V rg, V rs, V rl, V rp, V rt, V ri, V rc] 39)) w.heap.size #[.int .i64 k, V fl, .string S, .int .i64 pk, V rg, V rs, V rl, V rp, V rt, V ri, V rc] := Box.new _ _ _
  have u0 : Up w (w.alloc (.cells #[.int .i64 k, V fl, .string S, .int .i64 pk, V rg, V rs, V rl, V rp, V rt, V ri, V rc] 39)) := Up.alloc _ _
  have b1 := hb.up u0
  obtain ⟨B, hB⟩ : ∃ B, w.heap.size = B := ⟨_, rfl⟩
  have HB : Hid (w.heap.size = B) := hB
  rw [hB] at b0
  clear hV hb
  go_enter Tryd.func31, Tryd.ntmps31
  go_upto_region 1 with fail
  clear hB
  generalize w.alloc (.cells #[.int .i64 k, V fl, .string S, .int .i64 pk, V rg, V rs, V rl, V rp, V rt, V ri, V rc] 39) = w0 at *
  obtain ⟨r0, r1, r2, r3, r4, r5, r6, r7, r8, r9, r10⟩ := b0.c11
  go_wp2_with fail
  refine (HV.out _).mono ?_
  rintro e w1 ⟨rfl, u1⟩
  have hU := u0.trans u1
  replace b0 := b0.up u1
  replace b1 := b1.up u1
  clear r0 r1 r2 r3 r4 r5 r6 r7 r8 r9 r10 u0 u1 HV
  go_wp2
  go_ret
  exact ⟨rfl, hU⟩

set_option maxRecDepth 20000 in
set_option maxHeartbeats 6400000 in
theorem rstep_top (sb l f n N cp i : Nat) (a0 : Option Addr) (k : Int) (fl : Nat) (S : ByteArray) (pk : Int) (rg rs rl rp rt ri rc : Nat) (w : World) (hb : Box w sb #[V l, V f, .slice a0 N cp])
    (hV : ∀ u, Calls Tryd.prog 38 #[.agg #[.int .i64 k, V fl, .string S, .int .i64 pk, V rg, V rs, V rl, V rp, V rt, V ri, V rc]] u fun e w' => e = .returned (.bool true) ∧ Up u w') (hlt : 4611686018427387904 ≤ l) :
    Calls Tryd.prog 31 #[.pointer (some ⟨sb, 0, none⟩), V n, .agg #[.int .i64 k, V fl, .string S, .int .i64 pk, V rg, V rs, V rl, V rp, V rt, V ri, V rc]] w fun e w' => e = .returned (.int .i64 11) ∧ Up w w' := by
  have hq3 : (4611686018427387904 : Int) ≤ (l : Int) := by omega
  have hq4 : decide ((4611686018427387904 : Int) ≤ (l : Int)) = true := decide_eq_true hq3
  clear hlt
  have HV : Hid (∀ u, Calls Tryd.prog 38 #[.agg #[.int .i64 k, V fl, .string S, .int .i64 pk, V rg, V rs, V rl, V rp, V rt, V ri, V rc]] u fun e w' => e = .returned (.bool true) ∧ Up u w') := hV
  have b0 : Box (w.alloc (.cells #[.int .i64 k, V fl, .string S, .int .i64 pk, V rg, V rs, V rl, V rp, V rt, V ri, V rc] 39)) w.heap.size #[.int .i64 k, V fl, .string S, .int .i64 pk, V rg, V rs, V rl, V rp, V rt, V ri, V rc] := Box.new _ _ _
  have u0 : Up w (w.alloc (.cells #[.int .i64 k, V fl, .string S, .int .i64 pk, V rg, V rs, V rl, V rp, V rt, V ri, V rc] 39)) := Up.alloc _ _
  have b1 := hb.up u0
  obtain ⟨B, hB⟩ : ∃ B, w.heap.size = B := ⟨_, rfl⟩
  have HB : Hid (w.heap.size = B) := hB
  rw [hB] at b0
  clear hV hb
  go_enter Tryd.func31, Tryd.ntmps31
  go_upto_region 1 with fail
  clear hB
  generalize w.alloc (.cells #[.int .i64 k, V fl, .string S, .int .i64 pk, V rg, V rs, V rl, V rp, V rt, V ri, V rc] 39) = w0 at *
  obtain ⟨r0, r1, r2, r3, r4, r5, r6, r7, r8, r9, r10⟩ := b0.c11
  go_wp2_with fail
  refine (HV.out _).mono ?_
  rintro e w1 ⟨rfl, u1⟩
  have hU := u0.trans u1
  replace b0 := b0.up u1
  replace b1 := b1.up u1
  clear r0 r1 r2 r3 r4 r5 r6 r7 r8 r9 r10 u0 u1 HV
  obtain ⟨r0, r1, r2, r3, r4, r5, r6, r7, r8, r9, r10⟩ := b0.c11
  obtain ⟨s0, s1, s2⟩ := b1.c3
  go_wp2
  go_ret
  exact ⟨rfl, hU⟩

set_option maxRecDepth 20000 in
set_option maxHeartbeats 6400000 in
theorem rstep_gap (sb l f n N cp i : Nat) (a0 : Option Addr) (k : Int) (fl : Nat) (S : ByteArray) (pk : Int) (rg rs rl rp rt ri rc : Nat) (w : World) (hb : Box w sb #[V l, V f, .slice a0 N cp])
    (hV : ∀ u, Calls Tryd.prog 38 #[.agg #[.int .i64 k, V fl, .string S, .int .i64 pk, V rg, V rs, V rl, V rp, V rt, V ri, V rc]] u fun e w' => e = .returned (.bool true) ∧ Up u w') (hlt : l < 4611686018427387904) (hne : n ≠ l + 1) :
    Calls Tryd.prog 31 #[.pointer (some ⟨sb, 0, none⟩), V n, .agg #[.int .i64 k, V fl, .string S, .int .i64 pk, V rg, V rs, V rl, V rp, V rt, V ri, V rc]] w fun e w' => e = .returned (.int .i64 11) ∧ Up w w' := by
  have e1 : IntKind.u64.wrap ((l : Int) + 1) = (l : Int) + 1 := by rw [IntKind.wrap_u64]; omega
  have hq3 : ¬ (4611686018427387904 : Int) ≤ (l : Int) := by omega
  have hq4 : decide ((4611686018427387904 : Int) ≤ (l : Int)) = false := decide_eq_false hq3
  have hq : ((n : Int) == (l : Int) + 1) = false := by simp only [beq_eq_false_iff_ne]; omega
  have hq2 : ((n : Int) != (l : Int) + 1) = true := by rw [bne, hq]; rfl
  have hq5 : ¬ (n : Int) = (l : Int) + 1 := by omega
  clear hne hlt
  have HV : Hid (∀ u, Calls Tryd.prog 38 #[.agg #[.int .i64 k, V fl, .string S, .int .i64 pk, V rg, V rs, V rl, V rp, V rt, V ri, V rc]] u fun e w' => e = .returned (.bool true) ∧ Up u w') := hV
  have b0 : Box (w.alloc (.cells #[.int .i64 k, V fl, .string S, .int .i64 pk, V rg, V rs, V rl, V rp, V rt, V ri, V rc] 39)) w.heap.size #[.int .i64 k, V fl, .string S, .int .i64 pk, V rg, V rs, V rl, V rp, V rt, V ri, V rc] := Box.new _ _ _
  have u0 : Up w (w.alloc (.cells #[.int .i64 k, V fl, .string S, .int .i64 pk, V rg, V rs, V rl, V rp, V rt, V ri, V rc] 39)) := Up.alloc _ _
  have b1 := hb.up u0
  obtain ⟨B, hB⟩ : ∃ B, w.heap.size = B := ⟨_, rfl⟩
  have HB : Hid (w.heap.size = B) := hB
  rw [hB] at b0
  clear hV hb
  go_enter Tryd.func31, Tryd.ntmps31
  go_upto_region 1 with fail
  clear hB
  generalize w.alloc (.cells #[.int .i64 k, V fl, .string S, .int .i64 pk, V rg, V rs, V rl, V rp, V rt, V ri, V rc] 39) = w0 at *
  obtain ⟨r0, r1, r2, r3, r4, r5, r6, r7, r8, r9, r10⟩ := b0.c11
  go_wp2_with fail
  refine (HV.out _).mono ?_
  rintro e w1 ⟨rfl, u1⟩
  have hU := u0.trans u1
  replace b0 := b0.up u1
  replace b1 := b1.up u1
  clear r0 r1 r2 r3 r4 r5 r6 r7 r8 r9 r10 u0 u1 HV
  obtain ⟨r0, r1, r2, r3, r4, r5, r6, r7, r8, r9, r10⟩ := b0.c11
  obtain ⟨s0, s1, s2⟩ := b1.c3
  go_wp2
  go_ret
  exact ⟨rfl, hU⟩

end Go.Proofs.YtdddfapelencoaaDoor

set_option linter.unusedVariables false
set_option linter.unusedSimpArgs false
namespace Go.Proofs.YtdddfapelencoaaDoor
open Go Go.RowKit

set_option maxRecDepth 20000 in
set_option maxHeartbeats 6400000 in
theorem rstep_def_there (sb l f n N cp i : Nat) (a0 : Option Addr) (fl : Nat) (S : ByteArray) (pk : Int) (rg rs rl rp rt ri rc : Nat) (w : World) (hb : Box w sb #[V l, V f, .slice a0 N cp])
    (hV : ∀ u, Calls Tryd.prog 38 #[.agg #[.int .i64 1, V fl, .string S, .int .i64 pk, V rg, V rs, V rl, V rp, V rt, V ri, V rc]] u fun e w' => e = .returned (.bool true) ∧ Up u w') (hlt : l < 4611686018427387904) (hne : n = l + 1) (hi : i ≤ N) (hN : N ≤ 4096) (hF : ∀ u, Up w u → Calls Tryd.prog 10 #[.agg #[V l, V f, .slice a0 N cp], .string S] u fun e w' => e = .returned (.tuple #[.int .i64 (i : Int), .bool true]) ∧ Up u w') :
    Calls Tryd.prog 31 #[.pointer (some ⟨sb, 0, none⟩), V n, .agg #[.int .i64 1, V fl, .string S, .int .i64 pk, V rg, V rs, V rl, V rp, V rt, V ri, V rc]] w fun e w' => e = .returned (.int .i64 12) ∧ Up w w' := by
  have e1 : IntKind.u64.wrap ((l : Int) + 1) = (l : Int) + 1 := by rw [IntKind.wrap_u64]; omega
  have hq3 : ¬ (4611686018427387904 : Int) ≤ (l : Int) := by omega
  have hq4 : decide ((4611686018427387904 : Int) ≤ (l : Int)) = false := decide_eq_false hq3
  have hq2 : ((n : Int) != (l : Int) + 1) = false := by rw [hne]; simp
  have HF : Hid (∀ u, Up w u → Calls Tryd.prog 10 #[.agg #[V l, V f, .slice a0 N cp], .string S] u fun e w' => e = .returned (.tuple #[.int .i64 (i : Int), .bool true]) ∧ Up u w') := hF
  have hN1 : (N : Int) ≤ 4096 := by omega
  have hi1 : (i : Int) ≤ (N : Int) := by omega
  have HNE : Hid (n = l + 1) := hne
  clear hlt hne hF
  have HV : Hid (∀ u, Calls Tryd.prog 38 #[.agg #[.int .i64 1, V fl, .string S, .int .i64 pk, V rg, V rs, V rl, V rp, V rt, V ri, V rc]] u fun e w' => e = .returned (.bool true) ∧ Up u w') := hV
  have b0 : Box (w.alloc (.cells #[.int .i64 1, V fl, .string S, .int .i64 pk, V rg, V rs, V rl, V rp, V rt, V ri, V rc] 39)) w.heap.size #[.int .i64 1, V fl, .string S, .int .i64 pk, V rg, V rs, V rl, V rp, V rt, V ri, V rc] := Box.new _ _ _
  have u0 : Up w (w.alloc (.cells #[.int .i64 1, V fl, .string S, .int .i64 pk, V rg, V rs, V rl, V rp, V rt, V ri, V rc] 39)) := Up.alloc _ _
  have b1 := hb.up u0
  obtain ⟨B, hB⟩ : ∃ B, w.heap.size = B := ⟨_, rfl⟩
  have HB : Hid (w.heap.size = B) := hB
  rw [hB] at b0
  clear hV hb
  go_enter Tryd.func31, Tryd.ntmps31
  go_upto_region 1 with fail
  clear hB
  generalize w.alloc (.cells #[.int .i64 1, V fl, .string S, .int .i64 pk, V rg, V rs, V rl, V rp, V rt, V ri, V rc] 39) = w0 at *
  obtain ⟨r0, r1, r2, r3, r4, r5, r6, r7, r8, r9, r10⟩ := b0.c11
  go_wp2_with fail
  refine (HV.out _).mono ?_
  rintro e w1 ⟨rfl, u1⟩
  have hU := u0.trans u1
  replace b0 := b0.up u1
  replace b1 := b1.up u1
  clear r0 r1 r2 r3 r4 r5 r6 r7 r8 r9 r10 u0 u1 HV
  obtain ⟨r0, r1, r2, r3, r4, r5, r6, r7, r8, r9, r10⟩ := b0.c11
  obtain ⟨s0, s1, s2⟩ := b1.c3
  go_upto_region 5 with fail
  clear r0 r1 r2 r3 r4 r5 r6 r7 r8 r9 r10 s0 s1 s2 hq2 hq3 hq4 e1
  replace hU := hU.trans (Up.drew w1)
  have hs : Sg sb B l f (.slice a0 N cp) #[.int .i64 1, V fl, .string S, .int .i64 pk, V rg, V rs, V rl, V rp, V rt, V ri, V rc] w w1.drew := ⟨b1.up (Up.drew w1), b0.up (Up.drew w1), Touch.of_up hU _⟩
  clear b0 b1
  refine wp_region_held_drew (S := Sg sb B l f (.slice a0 N cp) #[.int .i64 1, V fl, .string S, .int .i64 pk, V rg, V rs, V rl, V rp, V rt, V ri, V rc] w) (by kernel_rfl) hs (fun hs0 => ?_)
  clear hs0
  generalize w1.drew = wd at *
  refine take_to (some 29) (i := 0) (v := .pointer (some ⟨sb, 0, none⟩)) rfl rfl (by kernel_rfl) (by kernel_rfl) (by kernel_rfl) (fun _ _ _ h => h) (Or.inl ⟨by kernel_rfl, by intro u hSu; go_simp⟩) hs ?_
  simp only [Act.put, List.setIfInBounds_toArray, List.set_cons_zero, List.set_cons_succ]
  refine take_to (some 30) (i := 1) (v := .pointer (some ⟨sb, 0, none⟩)) rfl rfl (by kernel_rfl) (by kernel_rfl) (by kernel_rfl) (fun _ _ _ h => h) (Or.inl ⟨by kernel_rfl, by intro u hSu; go_simp⟩) hs ?_
  simp only [Act.put, List.setIfInBounds_toArray, List.set_cons_zero, List.set_cons_succ]
  refine take_to (some 31) (i := 2) (v := .agg #[V l, V f, .slice a0 N cp]) rfl rfl (by kernel_rfl) (by kernel_rfl) (by kernel_rfl) (fun _ _ _ h => h) (Or.inl ⟨by kernel_rfl, by intro u hSu; obtain ⟨s0, s1, s2⟩ := hSu.st.c3; go_simp⟩) hs ?_
  simp only [Act.put, List.setIfInBounds_toArray, List.set_cons_zero, List.set_cons_succ]
  refine take_to (some 32) (i := 3) (v := .pointer (some ⟨B, 2, none⟩)) rfl rfl (by kernel_rfl) (by kernel_rfl) (by kernel_rfl) (fun _ _ _ h => h) (Or.inl ⟨by kernel_rfl, by intro u hSu; go_simp⟩) hs ?_
  simp only [Act.put, List.setIfInBounds_toArray, List.set_cons_zero, List.set_cons_succ]
  refine take_to (some 33) (i := 4) (v := .string S) rfl rfl (by kernel_rfl) (by kernel_rfl) (by kernel_rfl) (fun _ _ _ h => h) (Or.inl ⟨by kernel_rfl, by intro u hSu; obtain ⟨r0, r1, r2, r3, r4, r5, r6, r7, r8, r9, r10⟩ := hSu.rc.c11; go_simp⟩) hs ?_
  simp only [Act.put, List.setIfInBounds_toArray, List.set_cons_zero, List.set_cons_succ]
  refine wpAnyH_ready (rs := [5]) (by kernel_rfl) (by simp) ?_
  refine AllReadyH.cons rfl (fun K hK => ?_) AllReadyH.nil
  go_simp
  refine (HF.out _ hU).mono ?_
  rintro e w2 ⟨rfl, u1⟩
  replace hU := hU.trans u1
  replace hs := hs.up u1
  refine hK.out _ _ hs (fun _ => ?_)
  clear hK K
  refine take_to (some 28) (i := 6) (v := .tuple #[.int .i64 (i : Int), .bool true]) rfl rfl (by kernel_rfl) (by kernel_rfl) (by kernel_rfl) (fun _ _ _ h => h) (Or.inl ⟨by kernel_rfl, by intro u hSu; go_simp⟩) hs ?_
  simp only [Act.put, List.setIfInBounds_toArray, List.set_cons_zero, List.set_cons_succ]
  refine take_to (some 35) (i := 7) (v := .int .i64 (i : Int)) rfl rfl (by kernel_rfl) (by kernel_rfl) (by kernel_rfl) (fun _ _ _ h => h) (Or.inl ⟨by kernel_rfl, by intro u hSu; go_simp⟩) hs ?_
  simp only [Act.put, List.setIfInBounds_toArray, List.set_cons_zero, List.set_cons_succ]
  refine take_to (some 36) (i := 8) (v := .bool true) rfl rfl (by kernel_rfl) (by kernel_rfl) (by kernel_rfl) (fun _ _ _ h => h) (Or.inl ⟨by kernel_rfl, by intro u hSu; go_simp⟩) hs ?_
  simp only [Act.put, List.setIfInBounds_toArray, List.set_cons_zero, List.set_cons_succ]
  refine take_to (some 7) (i := 9) (v := .int .i64 (i : Int)) rfl rfl (by kernel_rfl) (by kernel_rfl) (by kernel_rfl) (fun _ _ _ h => h) (Or.inl ⟨by kernel_rfl, by intro u hSu; go_simp⟩) hs ?_
  simp only [Act.put, List.setIfInBounds_toArray, List.set_cons_zero, List.set_cons_succ]
  refine take_to (some 8) (i := 10) (v := .bool true) rfl rfl (by kernel_rfl) (by kernel_rfl) (by kernel_rfl) (fun _ _ _ h => h) (Or.inl ⟨by kernel_rfl, by intro u hSu; go_simp⟩) hs ?_
  simp only [Act.put, List.setIfInBounds_toArray, List.set_cons_zero, List.set_cons_succ]
  refine wpAnyH_done (by kernel_rfl) ?_ _
  clear HF
  obtain ⟨r0, r1, r2, r3, r4, r5, r6, r7, r8, r9, r10⟩ := hs.rc.c11
  obtain ⟨s0, s1, s2⟩ := hs.st.c3
  go_wp2
  go_ret
  exact ⟨rfl, hU⟩

set_option maxRecDepth 20000 in
set_option maxHeartbeats 6400000 in
theorem rstep_def_full (sb l f n N cp i : Nat) (a0 : Option Addr) (fl : Nat) (S : ByteArray) (pk : Int) (rg rs rl rp rt ri rc : Nat) (w : World) (hb : Box w sb #[V l, V f, .slice a0 N cp])
    (hV : ∀ u, Calls Tryd.prog 38 #[.agg #[.int .i64 1, V fl, .string S, .int .i64 pk, V rg, V rs, V rl, V rp, V rt, V ri, V rc]] u fun e w' => e = .returned (.bool true) ∧ Up u w') (hlt : l < 4611686018427387904) (hne : n = l + 1) (hi : i ≤ N) (hN : N ≤ 4096) (hF : ∀ u, Up w u → Calls Tryd.prog 10 #[.agg #[V l, V f, .slice a0 N cp], .string S] u fun e w' => e = .returned (.tuple #[.int .i64 (i : Int), .bool false]) ∧ Up u w') (hf : 4096 ≤ N) :
    Calls Tryd.prog 31 #[.pointer (some ⟨sb, 0, none⟩), V n, .agg #[.int .i64 1, V fl, .string S, .int .i64 pk, V rg, V rs, V rl, V rp, V rt, V ri, V rc]] w fun e w' => e = .returned (.int .i64 12) ∧ Up w w' := by
  have e1 : IntKind.u64.wrap ((l : Int) + 1) = (l : Int) + 1 := by rw [IntKind.wrap_u64]; omega
  have hq3 : ¬ (4611686018427387904 : Int) ≤ (l : Int) := by omega
  have hq4 : decide ((4611686018427387904 : Int) ≤ (l : Int)) = false := decide_eq_false hq3
  have hq2 : ((n : Int) != (l : Int) + 1) = false := by rw [hne]; simp
  have HF : Hid (∀ u, Up w u → Calls Tryd.prog 10 #[.agg #[V l, V f, .slice a0 N cp], .string S] u fun e w' => e = .returned (.tuple #[.int .i64 (i : Int), .bool false]) ∧ Up u w') := hF
  have hN1 : (N : Int) ≤ 4096 := by omega
  have hi1 : (i : Int) ≤ (N : Int) := by omega
  have HNE : Hid (n = l + 1) := hne
  clear hlt hne hF
  have HV : Hid (∀ u, Calls Tryd.prog 38 #[.agg #[.int .i64 1, V fl, .string S, .int .i64 pk, V rg, V rs, V rl, V rp, V rt, V ri, V rc]] u fun e w' => e = .returned (.bool true) ∧ Up u w') := hV
  have b0 : Box (w.alloc (.cells #[.int .i64 1, V fl, .string S, .int .i64 pk, V rg, V rs, V rl, V rp, V rt, V ri, V rc] 39)) w.heap.size #[.int .i64 1, V fl, .string S, .int .i64 pk, V rg, V rs, V rl, V rp, V rt, V ri, V rc] := Box.new _ _ _
  have u0 : Up w (w.alloc (.cells #[.int .i64 1, V fl, .string S, .int .i64 pk, V rg, V rs, V rl, V rp, V rt, V ri, V rc] 39)) := Up.alloc _ _
  have b1 := hb.up u0
  obtain ⟨B, hB⟩ : ∃ B, w.heap.size = B := ⟨_, rfl⟩
  have HB : Hid (w.heap.size = B) := hB
  rw [hB] at b0
  clear hV hb
  go_enter Tryd.func31, Tryd.ntmps31
  go_upto_region 1 with fail
  clear hB
  generalize w.alloc (.cells #[.int .i64 1, V fl, .string S, .int .i64 pk, V rg, V rs, V rl, V rp, V rt, V ri, V rc] 39) = w0 at *
  obtain ⟨r0, r1, r2, r3, r4, r5, r6, r7, r8, r9, r10⟩ := b0.c11
  go_wp2_with fail
  refine (HV.out _).mono ?_
  rintro e w1 ⟨rfl, u1⟩
  have hU := u0.trans u1
  replace b0 := b0.up u1
  replace b1 := b1.up u1
  clear r0 r1 r2 r3 r4 r5 r6 r7 r8 r9 r10 u0 u1 HV
  obtain ⟨r0, r1, r2, r3, r4, r5, r6, r7, r8, r9, r10⟩ := b0.c11
  obtain ⟨s0, s1, s2⟩ := b1.c3
  go_upto_region 5 with fail
  clear r0 r1 r2 r3 r4 r5 r6 r7 r8 r9 r10 s0 s1 s2 hq2 hq3 hq4 e1
  replace hU := hU.trans (Up.drew w1)
  have hs : Sg sb B l f (.slice a0 N cp) #[.int .i64 1, V fl, .string S, .int .i64 pk, V rg, V rs, V rl, V rp, V rt, V ri, V rc] w w1.drew := ⟨b1.up (Up.drew w1), b0.up (Up.drew w1), Touch.of_up hU _⟩
  clear b0 b1
  refine wp_region_held_drew (S := Sg sb B l f (.slice a0 N cp) #[.int .i64 1, V fl, .string S, .int .i64 pk, V rg, V rs, V rl, V rp, V rt, V ri, V rc] w) (by kernel_rfl) hs (fun hs0 => ?_)
  clear hs0
  generalize w1.drew = wd at *
  refine take_to (some 29) (i := 0) (v := .pointer (some ⟨sb, 0, none⟩)) rfl rfl (by kernel_rfl) (by kernel_rfl) (by kernel_rfl) (fun _ _ _ h => h) (Or.inl ⟨by kernel_rfl, by intro u hSu; go_simp⟩) hs ?_
  simp only [Act.put, List.setIfInBounds_toArray, List.set_cons_zero, List.set_cons_succ]
  refine take_to (some 30) (i := 1) (v := .pointer (some ⟨sb, 0, none⟩)) rfl rfl (by kernel_rfl) (by kernel_rfl) (by kernel_rfl) (fun _ _ _ h => h) (Or.inl ⟨by kernel_rfl, by intro u hSu; go_simp⟩) hs ?_
  simp only [Act.put, List.setIfInBounds_toArray, List.set_cons_zero, List.set_cons_succ]
  refine take_to (some 31) (i := 2) (v := .agg #[V l, V f, .slice a0 N cp]) rfl rfl (by kernel_rfl) (by kernel_rfl) (by kernel_rfl) (fun _ _ _ h => h) (Or.inl ⟨by kernel_rfl, by intro u hSu; obtain ⟨s0, s1, s2⟩ := hSu.st.c3; go_simp⟩) hs ?_
  simp only [Act.put, List.setIfInBounds_toArray, List.set_cons_zero, List.set_cons_succ]
  refine take_to (some 32) (i := 3) (v := .pointer (some ⟨B, 2, none⟩)) rfl rfl (by kernel_rfl) (by kernel_rfl) (by kernel_rfl) (fun _ _ _ h => h) (Or.inl ⟨by kernel_rfl, by intro u hSu; go_simp⟩) hs ?_
  simp only [Act.put, List.setIfInBounds_toArray, List.set_cons_zero, List.set_cons_succ]
  refine take_to (some 33) (i := 4) (v := .string S) rfl rfl (by kernel_rfl) (by kernel_rfl) (by kernel_rfl) (fun _ _ _ h => h) (Or.inl ⟨by kernel_rfl, by intro u hSu; obtain ⟨r0, r1, r2, r3, r4, r5, r6, r7, r8, r9, r10⟩ := hSu.rc.c11; go_simp⟩) hs ?_
  simp only [Act.put, List.setIfInBounds_toArray, List.set_cons_zero, List.set_cons_succ]
  refine wpAnyH_ready (rs := [5]) (by kernel_rfl) (by simp) ?_
  refine AllReadyH.cons rfl (fun K hK => ?_) AllReadyH.nil
  go_simp
  refine (HF.out _ hU).mono ?_
  rintro e w2 ⟨rfl, u1⟩
  replace hU := hU.trans u1
  replace hs := hs.up u1
  refine hK.out _ _ hs (fun _ => ?_)
  clear hK K
  refine take_to (some 28) (i := 6) (v := .tuple #[.int .i64 (i : Int), .bool false]) rfl rfl (by kernel_rfl) (by kernel_rfl) (by kernel_rfl) (fun _ _ _ h => h) (Or.inl ⟨by kernel_rfl, by intro u hSu; go_simp⟩) hs ?_
  simp only [Act.put, List.setIfInBounds_toArray, List.set_cons_zero, List.set_cons_succ]
  refine take_to (some 35) (i := 7) (v := .int .i64 (i : Int)) rfl rfl (by kernel_rfl) (by kernel_rfl) (by kernel_rfl) (fun _ _ _ h => h) (Or.inl ⟨by kernel_rfl, by intro u hSu; go_simp⟩) hs ?_
  simp only [Act.put, List.setIfInBounds_toArray, List.set_cons_zero, List.set_cons_succ]
  refine take_to (some 36) (i := 8) (v := .bool false) rfl rfl (by kernel_rfl) (by kernel_rfl) (by kernel_rfl) (fun _ _ _ h => h) (Or.inl ⟨by kernel_rfl, by intro u hSu; go_simp⟩) hs ?_
  simp only [Act.put, List.setIfInBounds_toArray, List.set_cons_zero, List.set_cons_succ]
  refine take_to (some 7) (i := 9) (v := .int .i64 (i : Int)) rfl rfl (by kernel_rfl) (by kernel_rfl) (by kernel_rfl) (fun _ _ _ h => h) (Or.inl ⟨by kernel_rfl, by intro u hSu; go_simp⟩) hs ?_
  simp only [Act.put, List.setIfInBounds_toArray, List.set_cons_zero, List.set_cons_succ]
  refine take_to (some 8) (i := 10) (v := .bool false) rfl rfl (by kernel_rfl) (by kernel_rfl) (by kernel_rfl) (fun _ _ _ h => h) (Or.inl ⟨by kernel_rfl, by intro u hSu; go_simp⟩) hs ?_
  simp only [Act.put, List.setIfInBounds_toArray, List.set_cons_zero, List.set_cons_succ]
  refine wpAnyH_done (by kernel_rfl) ?_ _
  clear HF
  obtain ⟨r0, r1, r2, r3, r4, r5, r6, r7, r8, r9, r10⟩ := hs.rc.c11
  obtain ⟨s0, s1, s2⟩ := hs.st.c3
  have hf1 : (4096 : Int) ≤ (N : Int) := by omega
  go_wp2
  go_ret
  exact ⟨rfl, hU⟩

set_option maxRecDepth 20000 in
set_option maxHeartbeats 6400000 in
theorem rstep_del_none (sb l f n N cp i : Nat) (a0 : Option Addr) (fl : Nat) (S : ByteArray) (pk : Int) (rg rs rl rp rt ri rc : Nat) (w : World) (hb : Box w sb #[V l, V f, .slice a0 N cp])
    (hV : ∀ u, Calls Tryd.prog 38 #[.agg #[.int .i64 2, V fl, .string S, .int .i64 pk, V rg, V rs, V rl, V rp, V rt, V ri, V rc]] u fun e w' => e = .returned (.bool true) ∧ Up u w') (hlt : l < 4611686018427387904) (hne : n = l + 1) (hi : i ≤ N) (hN : N ≤ 4096) (hF : ∀ u, Up w u → Calls Tryd.prog 10 #[.agg #[V l, V f, .slice a0 N cp], .string S] u fun e w' => e = .returned (.tuple #[.int .i64 (i : Int), .bool false]) ∧ Up u w') :
    Calls Tryd.prog 31 #[.pointer (some ⟨sb, 0, none⟩), V n, .agg #[.int .i64 2, V fl, .string S, .int .i64 pk, V rg, V rs, V rl, V rp, V rt, V ri, V rc]] w fun e w' => e = .returned (.int .i64 12) ∧ Up w w' := by
  have e1 : IntKind.u64.wrap ((l : Int) + 1) = (l : Int) + 1 := by rw [IntKind.wrap_u64]; omega
  have hq3 : ¬ (4611686018427387904 : Int) ≤ (l : Int) := by omega
  have hq4 : decide ((4611686018427387904 : Int) ≤ (l : Int)) = false := decide_eq_false hq3
  have hq2 : ((n : Int) != (l : Int) + 1) = false := by rw [hne]; simp
  have HF : Hid (∀ u, Up w u → Calls Tryd.prog 10 #[.agg #[V l, V f, .slice a0 N cp], .string S] u fun e w' => e = .returned (.tuple #[.int .i64 (i : Int), .bool false]) ∧ Up u w') := hF
  have hN1 : (N : Int) ≤ 4096 := by omega
  have hi1 : (i : Int) ≤ (N : Int) := by omega
  have HNE : Hid (n = l + 1) := hne
  clear hlt hne hF
  have HV : Hid (∀ u, Calls Tryd.prog 38 #[.agg #[.int .i64 2, V fl, .string S, .int .i64 pk, V rg, V rs, V rl, V rp, V rt, V ri, V rc]] u fun e w' => e = .returned (.bool true) ∧ Up u w') := hV
  have b0 : Box (w.alloc (.cells #[.int .i64 2, V fl, .string S, .int .i64 pk, V rg, V rs, V rl, V rp, V rt, V ri, V rc] 39)) w.heap.size #[.int .i64 2, V fl, .string S, .int .i64 pk, V rg, V rs, V rl, V rp, V rt, V ri, V rc] := Box.new _ _ _
  have u0 : Up w (w.alloc (.cells #[.int .i64 2, V fl, .string S, .int .i64 pk, V rg, V rs, V rl, V rp, V rt, V ri, V rc] 39)) := Up.alloc _ _
  have b1 := hb.up u0
  obtain ⟨B, hB⟩ : ∃ B, w.heap.size = B := ⟨_, rfl⟩
  have HB : Hid (w.heap.size = B) := hB
  rw [hB] at b0
  clear hV hb
  go_enter Tryd.func31, Tryd.ntmps31
  go_upto_region 1 with fail
  clear hB
  generalize w.alloc (.cells #[.int .i64 2, V fl, .string S, .int .i64 pk, V rg, V rs, V rl, V rp, V rt, V ri, V rc] 39) = w0 at *
  obtain ⟨r0, r1, r2, r3, r4, r5, r6, r7, r8, r9, r10⟩ := b0.c11
  go_wp2_with fail
  refine (HV.out _).mono ?_
  rintro e w1 ⟨rfl, u1⟩
  have hU := u0.trans u1
  replace b0 := b0.up u1
  replace b1 := b1.up u1
  clear r0 r1 r2 r3 r4 r5 r6 r7 r8 r9 r10 u0 u1 HV
  obtain ⟨r0, r1, r2, r3, r4, r5, r6, r7, r8, r9, r10⟩ := b0.c11
  obtain ⟨s0, s1, s2⟩ := b1.c3
  go_upto_region 5 with fail
  clear r0 r1 r2 r3 r4 r5 r6 r7 r8 r9 r10 s0 s1 s2 hq2 hq3 hq4 e1
  replace hU := hU.trans (Up.drew w1)
  have hs : Sg sb B l f (.slice a0 N cp) #[.int .i64 2, V fl, .string S, .int .i64 pk, V rg, V rs, V rl, V rp, V rt, V ri, V rc] w w1.drew := ⟨b1.up (Up.drew w1), b0.up (Up.drew w1), Touch.of_up hU _⟩
  clear b0 b1
  refine wp_region_held_drew (S := Sg sb B l f (.slice a0 N cp) #[.int .i64 2, V fl, .string S, .int .i64 pk, V rg, V rs, V rl, V rp, V rt, V ri, V rc] w) (by kernel_rfl) hs (fun hs0 => ?_)
  clear hs0
  generalize w1.drew = wd at *
  refine take_to (some 29) (i := 0) (v := .pointer (some ⟨sb, 0, none⟩)) rfl rfl (by kernel_rfl) (by kernel_rfl) (by kernel_rfl) (fun _ _ _ h => h) (Or.inl ⟨by kernel_rfl, by intro u hSu; go_simp⟩) hs ?_
  simp only [Act.put, List.setIfInBounds_toArray, List.set_cons_zero, List.set_cons_succ]
  refine take_to (some 30) (i := 1) (v := .pointer (some ⟨sb, 0, none⟩)) rfl rfl (by kernel_rfl) (by kernel_rfl) (by kernel_rfl) (fun _ _ _ h => h) (Or.inl ⟨by kernel_rfl, by intro u hSu; go_simp⟩) hs ?_
  simp only [Act.put, List.setIfInBounds_toArray, List.set_cons_zero, List.set_cons_succ]
  refine take_to (some 31) (i := 2) (v := .agg #[V l, V f, .slice a0 N cp]) rfl rfl (by kernel_rfl) (by kernel_rfl) (by kernel_rfl) (fun _ _ _ h => h) (Or.inl ⟨by kernel_rfl, by intro u hSu; obtain ⟨s0, s1, s2⟩ := hSu.st.c3; go_simp⟩) hs ?_
  simp only [Act.put, List.setIfInBounds_toArray, List.set_cons_zero, List.set_cons_succ]
  refine take_to (some 32) (i := 3) (v := .pointer (some ⟨B, 2, none⟩)) rfl rfl (by kernel_rfl) (by kernel_rfl) (by kernel_rfl) (fun _ _ _ h => h) (Or.inl ⟨by kernel_rfl, by intro u hSu; go_simp⟩) hs ?_
  simp only [Act.put, List.setIfInBounds_toArray, List.set_cons_zero, List.set_cons_succ]
  refine take_to (some 33) (i := 4) (v := .string S) rfl rfl (by kernel_rfl) (by kernel_rfl) (by kernel_rfl) (fun _ _ _ h => h) (Or.inl ⟨by kernel_rfl, by intro u hSu; obtain ⟨r0, r1, r2, r3, r4, r5, r6, r7, r8, r9, r10⟩ := hSu.rc.c11; go_simp⟩) hs ?_
  simp only [Act.put, List.setIfInBounds_toArray, List.set_cons_zero, List.set_cons_succ]
  refine wpAnyH_ready (rs := [5]) (by kernel_rfl) (by simp) ?_
  refine AllReadyH.cons rfl (fun K hK => ?_) AllReadyH.nil
  go_simp
  refine (HF.out _ hU).mono ?_
  rintro e w2 ⟨rfl, u1⟩
  replace hU := hU.trans u1
  replace hs := hs.up u1
  refine hK.out _ _ hs (fun _ => ?_)
  clear hK K
  refine take_to (some 28) (i := 6) (v := .tuple #[.int .i64 (i : Int), .bool false]) rfl rfl (by kernel_rfl) (by kernel_rfl) (by kernel_rfl) (fun _ _ _ h => h) (Or.inl ⟨by kernel_rfl, by intro u hSu; go_simp⟩) hs ?_
  simp only [Act.put, List.setIfInBounds_toArray, List.set_cons_zero, List.set_cons_succ]
  refine take_to (some 35) (i := 7) (v := .int .i64 (i : Int)) rfl rfl (by kernel_rfl) (by kernel_rfl) (by kernel_rfl) (fun _ _ _ h => h) (Or.inl ⟨by kernel_rfl, by intro u hSu; go_simp⟩) hs ?_
  simp only [Act.put, List.setIfInBounds_toArray, List.set_cons_zero, List.set_cons_succ]
  refine take_to (some 36) (i := 8) (v := .bool false) rfl rfl (by kernel_rfl) (by kernel_rfl) (by kernel_rfl) (fun _ _ _ h => h) (Or.inl ⟨by kernel_rfl, by intro u hSu; go_simp⟩) hs ?_
  simp only [Act.put, List.setIfInBounds_toArray, List.set_cons_zero, List.set_cons_succ]
  refine take_to (some 7) (i := 9) (v := .int .i64 (i : Int)) rfl rfl (by kernel_rfl) (by kernel_rfl) (by kernel_rfl) (fun _ _ _ h => h) (Or.inl ⟨by kernel_rfl, by intro u hSu; go_simp⟩) hs ?_
  simp only [Act.put, List.setIfInBounds_toArray, List.set_cons_zero, List.set_cons_succ]
  refine take_to (some 8) (i := 10) (v := .bool false) rfl rfl (by kernel_rfl) (by kernel_rfl) (by kernel_rfl) (fun _ _ _ h => h) (Or.inl ⟨by kernel_rfl, by intro u hSu; go_simp⟩) hs ?_
  simp only [Act.put, List.setIfInBounds_toArray, List.set_cons_zero, List.set_cons_succ]
  refine wpAnyH_done (by kernel_rfl) ?_ _
  clear HF
  obtain ⟨r0, r1, r2, r3, r4, r5, r6, r7, r8, r9, r10⟩ := hs.rc.c11
  obtain ⟨s0, s1, s2⟩ := hs.st.c3
  go_wp2
  go_ret
  exact ⟨rfl, hU⟩

set_option maxRecDepth 20000 in
set_option maxHeartbeats 6400000 in
theorem rstep_ceil_none (sb l f n N cp i : Nat) (a0 : Option Addr) (fl : Nat) (S : ByteArray) (pk : Int) (rg rs rl rp rt ri rc : Nat) (w : World) (hb : Box w sb #[V l, V f, .slice a0 N cp])
    (hV : ∀ u, Calls Tryd.prog 38 #[.agg #[.int .i64 3, V fl, .string S, .int .i64 pk, V rg, V rs, V rl, V rp, V rt, V ri, V rc]] u fun e w' => e = .returned (.bool true) ∧ Up u w') (hlt : l < 4611686018427387904) (hne : n = l + 1) (hi : i ≤ N) (hN : N ≤ 4096) (hF : ∀ u, Up w u → Calls Tryd.prog 10 #[.agg #[V l, V f, .slice a0 N cp], .string S] u fun e w' => e = .returned (.tuple #[.int .i64 (i : Int), .bool false]) ∧ Up u w') :
    Calls Tryd.prog 31 #[.pointer (some ⟨sb, 0, none⟩), V n, .agg #[.int .i64 3, V fl, .string S, .int .i64 pk, V rg, V rs, V rl, V rp, V rt, V ri, V rc]] w fun e w' => e = .returned (.int .i64 12) ∧ Up w w' := by
  have e1 : IntKind.u64.wrap ((l : Int) + 1) = (l : Int) + 1 := by rw [IntKind.wrap_u64]; omega
  have hq3 : ¬ (4611686018427387904 : Int) ≤ (l : Int) := by omega
  have hq4 : decide ((4611686018427387904 : Int) ≤ (l : Int)) = false := decide_eq_false hq3
  have hq2 : ((n : Int) != (l : Int) + 1) = false := by rw [hne]; simp
  have HF : Hid (∀ u, Up w u → Calls Tryd.prog 10 #[.agg #[V l, V f, .slice a0 N cp], .string S] u fun e w' => e = .returned (.tuple #[.int .i64 (i : Int), .bool false]) ∧ Up u w') := hF
  have hN1 : (N : Int) ≤ 4096 := by omega
  have hi1 : (i : Int) ≤ (N : Int) := by omega
  have HNE : Hid (n = l + 1) := hne
  clear hlt hne hF
  have HV : Hid (∀ u, Calls Tryd.prog 38 #[.agg #[.int .i64 3, V fl, .string S, .int .i64 pk, V rg, V rs, V rl, V rp, V rt, V ri, V rc]] u fun e w' => e = .returned (.bool true) ∧ Up u w') := hV
  have b0 : Box (w.alloc (.cells #[.int .i64 3, V fl, .string S, .int .i64 pk, V rg, V rs, V rl, V rp, V rt, V ri, V rc] 39)) w.heap.size #[.int .i64 3, V fl, .string S, .int .i64 pk, V rg, V rs, V rl, V rp, V rt, V ri, V rc] := Box.new _ _ _
  have u0 : Up w (w.alloc (.cells #[.int .i64 3, V fl, .string S, .int .i64 pk, V rg, V rs, V rl, V rp, V rt, V ri, V rc] 39)) := Up.alloc _ _
  have b1 := hb.up u0
  obtain ⟨B, hB⟩ : ∃ B, w.heap.size = B := ⟨_, rfl⟩
  have HB : Hid (w.heap.size = B) := hB
  rw [hB] at b0
  clear hV hb
  go_enter Tryd.func31, Tryd.ntmps31
  go_upto_region 1 with fail
  clear hB
  generalize w.alloc (.cells #[.int .i64 3, V fl, .string S, .int .i64 pk, V rg, V rs, V rl, V rp, V rt, V ri, V rc] 39) = w0 at *
  obtain ⟨r0, r1, r2, r3, r4, r5, r6, r7, r8, r9, r10⟩ := b0.c11
  go_wp2_with fail
  refine (HV.out _).mono ?_
  rintro e w1 ⟨rfl, u1⟩
  have hU := u0.trans u1
  replace b0 := b0.up u1
  replace b1 := b1.up u1
  clear r0 r1 r2 r3 r4 r5 r6 r7 r8 r9 r10 u0 u1 HV
  obtain ⟨r0, r1, r2, r3, r4, r5, r6, r7, r8, r9, r10⟩ := b0.c11
  obtain ⟨s0, s1, s2⟩ := b1.c3
  go_upto_region 5 with fail
  clear r0 r1 r2 r3 r4 r5 r6 r7 r8 r9 r10 s0 s1 s2 hq2 hq3 hq4 e1
  replace hU := hU.trans (Up.drew w1)
  have hs : Sg sb B l f (.slice a0 N cp) #[.int .i64 3, V fl, .string S, .int .i64 pk, V rg, V rs, V rl, V rp, V rt, V ri, V rc] w w1.drew := ⟨b1.up (Up.drew w1), b0.up (Up.drew w1), Touch.of_up hU _⟩
  clear b0 b1
  refine wp_region_held_drew (S := Sg sb B l f (.slice a0 N cp) #[.int .i64 3, V fl, .string S, .int .i64 pk, V rg, V rs, V rl, V rp, V rt, V ri, V rc] w) (by kernel_rfl) hs (fun hs0 => ?_)
  clear hs0
  generalize w1.drew = wd at *
  refine take_to (some 29) (i := 0) (v := .pointer (some ⟨sb, 0, none⟩)) rfl rfl (by kernel_rfl) (by kernel_rfl) (by kernel_rfl) (fun _ _ _ h => h) (Or.inl ⟨by kernel_rfl, by intro u hSu; go_simp⟩) hs ?_
  simp only [Act.put, List.setIfInBounds_toArray, List.set_cons_zero, List.set_cons_succ]
  refine take_to (some 30) (i := 1) (v := .pointer (some ⟨sb, 0, none⟩)) rfl rfl (by kernel_rfl) (by kernel_rfl) (by kernel_rfl) (fun _ _ _ h => h) (Or.inl ⟨by kernel_rfl, by intro u hSu; go_simp⟩) hs ?_
  simp only [Act.put, List.setIfInBounds_toArray, List.set_cons_zero, List.set_cons_succ]
  refine take_to (some 31) (i := 2) (v := .agg #[V l, V f, .slice a0 N cp]) rfl rfl (by kernel_rfl) (by kernel_rfl) (by kernel_rfl) (fun _ _ _ h => h) (Or.inl ⟨by kernel_rfl, by intro u hSu; obtain ⟨s0, s1, s2⟩ := hSu.st.c3; go_simp⟩) hs ?_
  simp only [Act.put, List.setIfInBounds_toArray, List.set_cons_zero, List.set_cons_succ]
  refine take_to (some 32) (i := 3) (v := .pointer (some ⟨B, 2, none⟩)) rfl rfl (by kernel_rfl) (by kernel_rfl) (by kernel_rfl) (fun _ _ _ h => h) (Or.inl ⟨by kernel_rfl, by intro u hSu; go_simp⟩) hs ?_
  simp only [Act.put, List.setIfInBounds_toArray, List.set_cons_zero, List.set_cons_succ]
  refine take_to (some 33) (i := 4) (v := .string S) rfl rfl (by kernel_rfl) (by kernel_rfl) (by kernel_rfl) (fun _ _ _ h => h) (Or.inl ⟨by kernel_rfl, by intro u hSu; obtain ⟨r0, r1, r2, r3, r4, r5, r6, r7, r8, r9, r10⟩ := hSu.rc.c11; go_simp⟩) hs ?_
  simp only [Act.put, List.setIfInBounds_toArray, List.set_cons_zero, List.set_cons_succ]
  refine wpAnyH_ready (rs := [5]) (by kernel_rfl) (by simp) ?_
  refine AllReadyH.cons rfl (fun K hK => ?_) AllReadyH.nil
  go_simp
  refine (HF.out _ hU).mono ?_
  rintro e w2 ⟨rfl, u1⟩
  replace hU := hU.trans u1
  replace hs := hs.up u1
  refine hK.out _ _ hs (fun _ => ?_)
  clear hK K
  refine take_to (some 28) (i := 6) (v := .tuple #[.int .i64 (i : Int), .bool false]) rfl rfl (by kernel_rfl) (by kernel_rfl) (by kernel_rfl) (fun _ _ _ h => h) (Or.inl ⟨by kernel_rfl, by intro u hSu; go_simp⟩) hs ?_
  simp only [Act.put, List.setIfInBounds_toArray, List.set_cons_zero, List.set_cons_succ]
  refine take_to (some 35) (i := 7) (v := .int .i64 (i : Int)) rfl rfl (by kernel_rfl) (by kernel_rfl) (by kernel_rfl) (fun _ _ _ h => h) (Or.inl ⟨by kernel_rfl, by intro u hSu; go_simp⟩) hs ?_
  simp only [Act.put, List.setIfInBounds_toArray, List.set_cons_zero, List.set_cons_succ]
  refine take_to (some 36) (i := 8) (v := .bool false) rfl rfl (by kernel_rfl) (by kernel_rfl) (by kernel_rfl) (fun _ _ _ h => h) (Or.inl ⟨by kernel_rfl, by intro u hSu; go_simp⟩) hs ?_
  simp only [Act.put, List.setIfInBounds_toArray, List.set_cons_zero, List.set_cons_succ]
  refine take_to (some 7) (i := 9) (v := .int .i64 (i : Int)) rfl rfl (by kernel_rfl) (by kernel_rfl) (by kernel_rfl) (fun _ _ _ h => h) (Or.inl ⟨by kernel_rfl, by intro u hSu; go_simp⟩) hs ?_
  simp only [Act.put, List.setIfInBounds_toArray, List.set_cons_zero, List.set_cons_succ]
  refine take_to (some 8) (i := 10) (v := .bool false) rfl rfl (by kernel_rfl) (by kernel_rfl) (by kernel_rfl) (fun _ _ _ h => h) (Or.inl ⟨by kernel_rfl, by intro u hSu; go_simp⟩) hs ?_
  simp only [Act.put, List.setIfInBounds_toArray, List.set_cons_zero, List.set_cons_succ]
  refine wpAnyH_done (by kernel_rfl) ?_ _
  clear HF
  obtain ⟨r0, r1, r2, r3, r4, r5, r6, r7, r8, r9, r10⟩ := hs.rc.c11
  obtain ⟨s0, s1, s2⟩ := hs.st.c3
  go_upto_region 7 with fail
  go_quiet (fail)
  go_wp2
  go_ret
  exact ⟨rfl, hU.trans (up_drewN _ _)⟩

end Go.Proofs.YtdddfapelencoaaDoor

set_option linter.unusedVariables false
set_option linter.unusedSimpArgs false
namespace Go.Proofs.YtdddfapelencoaaDoor
open Go Go.RowKit

/-- Deleting by shifting down. -/
theorem del_len (xs : List Ent) (i : Nat) (h : i < xs.length) : (xs.take i ++ xs.drop (i + 1)).length + 1 = xs.length := by
  simp only [List.length_append, List.length_take, List.length_drop]; omega
theorem del_start (xs : List Ent) (i : Nat) (h : i < xs.length) : (xs.take i ++ xs.drop (i + 1)).take i ++ xs.drop i = xs := by
  rw [List.take_append_of_le_length (by rw [List.length_take]; omega), List.take_take, Nat.min_self, List.take_append_drop]
theorem del_at (xs : List Ent) (i j : Nat) (hij : i ≤ j) (hj : j + 1 < xs.length) : (xs.take i ++ xs.drop (i + 1))[j]? = xs[j + 1]? := by
  rw [List.getElem?_append_right (by rw [List.length_take]; omega), List.getElem?_drop, List.length_take, Nat.min_eq_left (by omega)]
  congr 1
  omega
theorem del_shift (xs D : List Ent) (j : Nat) (y : Ent) (hD : D.length + 1 = xs.length) (hj : j + 1 < xs.length) (h1 : D[j]? = some y) : (D.take j ++ xs.drop j).set j y = D.take (j + 1) ++ xs.drop (j + 1) := by
  have hl : (D.take j).length = j := by rw [List.length_take]; omega
  rw [List.set_append_right _ _ (by omega), hl, Nat.sub_self, List.drop_eq_getElem_cons (by omega), List.set_cons_zero, List.take_add_one, h1]
  simp
theorem del_read (xs D : List Ent) (j : Nat) (hD : D.length + 1 = xs.length) (hj : j + 1 < xs.length) : (D.take j ++ xs.drop j)[j + 1]? = xs[j + 1]? := by
  have hl : (D.take j).length = j := by rw [List.length_take]; omega
  rw [List.getElem?_append_right (by omega), List.getElem?_drop, hl]
  congr 1
  omega
theorem del_next (xs D : List Ent) (j : Nat) (hD : D.length + 1 = xs.length) (hj : j + 1 < xs.length) : (D.take (j + 1) ++ xs.drop (j + 1))[j + 1]? = xs[j + 1]? := by
  have hl : (D.take (j + 1)).length = j + 1 := by rw [List.length_take]; omega
  rw [List.getElem?_append_right (by omega), List.getElem?_drop, hl]
  congr 1
  omega
theorem del_rows (xs D : List Ent) (j : Nat) (hD : D.length + 1 = xs.length) (hj : j < xs.length) : (D.take j ++ xs.drop j).length = xs.length := by
  simp only [List.length_append, List.length_take, List.length_drop]; omega
theorem del_end (xs D : List Ent) (j : Nat) (hD : D.length + 1 = xs.length) (hj : j + 1 = xs.length) : ∃ z, D.take j ++ xs.drop j = D ++ [z] := by
  refine ⟨xs[j], ?_⟩
  rw [List.take_of_length_le (by omega), List.drop_eq_getElem_cons (by omega), List.drop_of_length_le (by omega)]

set_option maxRecDepth 20000 in
set_option maxHeartbeats 6400000 in
theorem rstep_del (sb l f n N cp i : Nat) (g : Nat) (fl : Nat) (S : ByteArray) (pk : Int) (rg rs rl rp rt ri rc : Nat) (w : World) (hb : Box w sb #[V l, V f, .slice (some ⟨g, 0, none⟩) N cp])
    (hV : ∀ u, Calls Tryd.prog 38 #[.agg #[.int .i64 2, V fl, .string S, .int .i64 pk, V rg, V rs, V rl, V rp, V rt, V ri, V rc]] u fun e w' => e = .returned (.bool true) ∧ Up u w') (hlt : l < 4611686018427387904) (hne : n = l + 1) (hi : i ≤ N) (hN : N ≤ 4096) (hF : ∀ u, Up w u → Calls Tryd.prog 10 #[.agg #[V l, V f, .slice (some ⟨g, 0, none⟩) N cp], .string S] u fun e w' => e = .returned (.tuple #[.int .i64 (i : Int), .bool true]) ∧ Up u w') (base : Nat) (xs : List Ent) (ho : OwnE w base (.slice (some ⟨g, 0, none⟩) N cp) xs) (hlen : xs.length = N) (hi2 : i < N) (hbase : base ≤ w.heap.size) (D : List Ent) (hD : xs.take i ++ xs.drop (i + 1) = D) :
    Calls Tryd.prog 31 #[.pointer (some ⟨sb, 0, none⟩), V n, .agg #[.int .i64 2, V fl, .string S, .int .i64 pk, V rg, V rs, V rl, V rp, V rt, V ri, V rc]] w fun e w' => e = .returned (.int .i64 0) ∧ ∃ v', Box w' sb #[V n, V (max f fl), v'] ∧ OwnE w' base v' (D) ∧ Touch w w' (Rb sb base w.heap.size) := by
  have HO : Hid (OwnE w base (.slice (some ⟨g, 0, none⟩) N cp) xs ∧ xs.length = N ∧ i < N ∧ True ∧ base ≤ w.heap.size ∧ sb < w.heap.size) := ⟨ho, hlen, hi2, trivial, hbase, hb.lt⟩
  clear ho hlen hi2 hbase
  have e1 : IntKind.u64.wrap ((l : Int) + 1) = (l : Int) + 1 := by rw [IntKind.wrap_u64]; omega
  have hq3 : ¬ (4611686018427387904 : Int) ≤ (l : Int) := by omega
  have hq4 : decide ((4611686018427387904 : Int) ≤ (l : Int)) = false := decide_eq_false hq3
  have hq2 : ((n : Int) != (l : Int) + 1) = false := by rw [hne]; simp
  have HF : Hid (∀ u, Up w u → Calls Tryd.prog 10 #[.agg #[V l, V f, .slice (some ⟨g, 0, none⟩) N cp], .string S] u fun e w' => e = .returned (.tuple #[.int .i64 (i : Int), .bool true]) ∧ Up u w') := hF
  have hN1 : (N : Int) ≤ 4096 := by omega
  have hi1 : (i : Int) ≤ (N : Int) := by omega
  have HNE : Hid (n = l + 1) := hne
  clear hlt hne hF
  have HV : Hid (∀ u, Calls Tryd.prog 38 #[.agg #[.int .i64 2, V fl, .string S, .int .i64 pk, V rg, V rs, V rl, V rp, V rt, V ri, V rc]] u fun e w' => e = .returned (.bool true) ∧ Up u w') := hV
  have b0 : Box (w.alloc (.cells #[.int .i64 2, V fl, .string S, .int .i64 pk, V rg, V rs, V rl, V rp, V rt, V ri, V rc] 39)) w.heap.size #[.int .i64 2, V fl, .string S, .int .i64 pk, V rg, V rs, V rl, V rp, V rt, V ri, V rc] := Box.new _ _ _
  have u0 : Up w (w.alloc (.cells #[.int .i64 2, V fl, .string S, .int .i64 pk, V rg, V rs, V rl, V rp, V rt, V ri, V rc] 39)) := Up.alloc _ _
  have b1 := hb.up u0
  obtain ⟨B, hB⟩ : ∃ B, w.heap.size = B := ⟨_, rfl⟩
  have HB : Hid (w.heap.size = B) := hB
  rw [hB] at b0
  clear hV hb
  go_enter Tryd.func31, Tryd.ntmps31
  go_upto_region 1 with fail
  clear hB
  generalize w.alloc (.cells #[.int .i64 2, V fl, .string S, .int .i64 pk, V rg, V rs, V rl, V rp, V rt, V ri, V rc] 39) = w0 at *
  obtain ⟨r0, r1, r2, r3, r4, r5, r6, r7, r8, r9, r10⟩ := b0.c11
  go_wp2_with fail
  refine (HV.out _).mono ?_
  rintro e w1 ⟨rfl, u1⟩
  have hU := u0.trans u1
  replace b0 := b0.up u1
  replace b1 := b1.up u1
  clear r0 r1 r2 r3 r4 r5 r6 r7 r8 r9 r10 u0 u1 HV
  obtain ⟨r0, r1, r2, r3, r4, r5, r6, r7, r8, r9, r10⟩ := b0.c11
  obtain ⟨s0, s1, s2⟩ := b1.c3
  go_upto_region 5 with fail
  clear r0 r1 r2 r3 r4 r5 r6 r7 r8 r9 r10 s0 s1 s2 hq2 hq3 hq4 e1
  replace hU := hU.trans (Up.drew w1)
  have hs : Sg sb B l f (.slice (some ⟨g, 0, none⟩) N cp) #[.int .i64 2, V fl, .string S, .int .i64 pk, V rg, V rs, V rl, V rp, V rt, V ri, V rc] w w1.drew := ⟨b1.up (Up.drew w1), b0.up (Up.drew w1), Touch.of_up hU _⟩
  clear b0 b1
  refine wp_region_held_drew (S := Sg sb B l f (.slice (some ⟨g, 0, none⟩) N cp) #[.int .i64 2, V fl, .string S, .int .i64 pk, V rg, V rs, V rl, V rp, V rt, V ri, V rc] w) (by kernel_rfl) hs (fun hs0 => ?_)
  clear hs0
  generalize w1.drew = wd at *
  refine take_to (some 29) (i := 0) (v := .pointer (some ⟨sb, 0, none⟩)) rfl rfl (by kernel_rfl) (by kernel_rfl) (by kernel_rfl) (fun _ _ _ h => h) (Or.inl ⟨by kernel_rfl, by intro u hSu; go_simp⟩) hs ?_
  simp only [Act.put, List.setIfInBounds_toArray, List.set_cons_zero, List.set_cons_succ]
  refine take_to (some 30) (i := 1) (v := .pointer (some ⟨sb, 0, none⟩)) rfl rfl (by kernel_rfl) (by kernel_rfl) (by kernel_rfl) (fun _ _ _ h => h) (Or.inl ⟨by kernel_rfl, by intro u hSu; go_simp⟩) hs ?_
  simp only [Act.put, List.setIfInBounds_toArray, List.set_cons_zero, List.set_cons_succ]
  refine take_to (some 31) (i := 2) (v := .agg #[V l, V f, .slice (some ⟨g, 0, none⟩) N cp]) rfl rfl (by kernel_rfl) (by kernel_rfl) (by kernel_rfl) (fun _ _ _ h => h) (Or.inl ⟨by kernel_rfl, by intro u hSu; obtain ⟨s0, s1, s2⟩ := hSu.st.c3; go_simp⟩) hs ?_
  simp only [Act.put, List.setIfInBounds_toArray, List.set_cons_zero, List.set_cons_succ]
  refine take_to (some 32) (i := 3) (v := .pointer (some ⟨B, 2, none⟩)) rfl rfl (by kernel_rfl) (by kernel_rfl) (by kernel_rfl) (fun _ _ _ h => h) (Or.inl ⟨by kernel_rfl, by intro u hSu; go_simp⟩) hs ?_
  simp only [Act.put, List.setIfInBounds_toArray, List.set_cons_zero, List.set_cons_succ]
  refine take_to (some 33) (i := 4) (v := .string S) rfl rfl (by kernel_rfl) (by kernel_rfl) (by kernel_rfl) (fun _ _ _ h => h) (Or.inl ⟨by kernel_rfl, by intro u hSu; obtain ⟨r0, r1, r2, r3, r4, r5, r6, r7, r8, r9, r10⟩ := hSu.rc.c11; go_simp⟩) hs ?_
  simp only [Act.put, List.setIfInBounds_toArray, List.set_cons_zero, List.set_cons_succ]
  refine wpAnyH_ready (rs := [5]) (by kernel_rfl) (by simp) ?_
  refine AllReadyH.cons rfl (fun K hK => ?_) AllReadyH.nil
  go_simp
  refine (HF.out _ hU).mono ?_
  rintro e w2 ⟨rfl, u1⟩
  replace hU := hU.trans u1
  replace hs := hs.up u1
  refine hK.out _ _ hs (fun _ => ?_)
  clear hK K
  refine take_to (some 28) (i := 6) (v := .tuple #[.int .i64 (i : Int), .bool true]) rfl rfl (by kernel_rfl) (by kernel_rfl) (by kernel_rfl) (fun _ _ _ h => h) (Or.inl ⟨by kernel_rfl, by intro u hSu; go_simp⟩) hs ?_
  simp only [Act.put, List.setIfInBounds_toArray, List.set_cons_zero, List.set_cons_succ]
  refine take_to (some 35) (i := 7) (v := .int .i64 (i : Int)) rfl rfl (by kernel_rfl) (by kernel_rfl) (by kernel_rfl) (fun _ _ _ h => h) (Or.inl ⟨by kernel_rfl, by intro u hSu; go_simp⟩) hs ?_
  simp only [Act.put, List.setIfInBounds_toArray, List.set_cons_zero, List.set_cons_succ]
  refine take_to (some 36) (i := 8) (v := .bool true) rfl rfl (by kernel_rfl) (by kernel_rfl) (by kernel_rfl) (fun _ _ _ h => h) (Or.inl ⟨by kernel_rfl, by intro u hSu; go_simp⟩) hs ?_
  simp only [Act.put, List.setIfInBounds_toArray, List.set_cons_zero, List.set_cons_succ]
  refine take_to (some 7) (i := 9) (v := .int .i64 (i : Int)) rfl rfl (by kernel_rfl) (by kernel_rfl) (by kernel_rfl) (fun _ _ _ h => h) (Or.inl ⟨by kernel_rfl, by intro u hSu; go_simp⟩) hs ?_
  simp only [Act.put, List.setIfInBounds_toArray, List.set_cons_zero, List.set_cons_succ]
  refine take_to (some 8) (i := 10) (v := .bool true) rfl rfl (by kernel_rfl) (by kernel_rfl) (by kernel_rfl) (fun _ _ _ h => h) (Or.inl ⟨by kernel_rfl, by intro u hSu; go_simp⟩) hs ?_
  simp only [Act.put, List.setIfInBounds_toArray, List.set_cons_zero, List.set_cons_succ]
  refine wpAnyH_done (by kernel_rfl) ?_ _
  clear HF
  obtain ⟨r0, r1, r2, r3, r4, r5, r6, r7, r8, r9, r10⟩ := hs.rc.c11
  obtain ⟨s0, s1, s2⟩ := hs.st.c3
  have HX : Hid (Fn sb B base l f (.slice (some ⟨g, 0, none⟩) N cp) #[.int .i64 2, V fl, .string S, .int .i64 pk, V rg, V rs, V rl, V rp, V rt, V ri, V rc] xs w w2) := ⟨hs.st, hs.rc, HO.out.1.up hU, hs.tt.mono (fun k hk => mem_Rb (.inr (HO.out.1.ge k hk).1)), by have := HB.out; have := HO.out.2.2.2.2.2; omega, rfl⟩
  have HD : Hid (D.length + 1 = xs.length ∧ D.take i ++ xs.drop i = xs ∧ ∀ j, i ≤ j → j + 1 < xs.length → D[j]? = xs[j + 1]?) := by
    have h1 := HO.out.2.1
    have h2 := HO.out.2.2.1
    rw [← hD]
    exact ⟨del_len xs i (by omega), del_start xs i (by omega), fun j h3 h4 => del_at xs i j h3 h4⟩
  clear hD hs hU
  go_wp2
  clear s0 s1 s2 r0 r1 r2 r3 r4 r5 r6 r7 r8 r9 r10
  go_loopg [10] (N - i) (fun g8 x wr => ∃ j : Nat, i ≤ j ∧ j < N ∧ g8 = N - j ∧ x = .int .i64 j ∧ Hid (Fn sb B base l f (.slice (some ⟨g, 0, none⟩) N cp) #[.int .i64 2, V fl, .string S, .int .i64 pk, V rg, V rs, V rl, V rp, V rt, V ri, V rc] (D.take j ++ xs.drop j) w wr))
  case atStart => exact ⟨i, Nat.le_refl _, HO.out.2.2.1, rfl, rfl, by show Fn _ _ _ _ _ _ _ _ _ _; rw [HD.out.2.1]; exact HX.out⟩
  case round =>
    clear HX
    obtain ⟨j, hij, hjN, rfl, rfl, HF⟩ := hrel
    obtain ⟨s0, s1, s2⟩ := HF.out.st.c3
    have e1 : IntKind.i64.wrap ((j : Int) + 1) = (j : Int) + 1 := by have := IntKind.wrap_i64 ((j : Int) + 1); omega
    by_cases hlt : j + 1 < N
    · have hlt' : (j : Int) + 1 < (N : Int) := by omega
      have hjN' : (j : Int) < (N : Int) := by omega
      have hj0 : ¬ ((j : Int) + 1 < 0) := by omega
      have hj1 : (0 : Int) ≤ (j : Int) + 1 := by omega
      have HJ : Hid (i ≤ j ∧ j + 1 < N ∧ j + 1 < xs.length) := ⟨hij, hlt, by have := HO.out.2.1; omega⟩
      go_upto_region 25 with fail
      clear s0 s1 s2
      have hX := HF.out.up (Up.drew wr)
      clear HF
      have hrl := del_rows xs D j HD.out.1 (by have := HJ.out.2.2; omega)
      have hat := hX.own.here (j + 1) (by rw [hrl]; exact HJ.out.2.2)
      have hat0 := hX.own.here j (by rw [hrl]; have := HJ.out.2.2; omega)
      have hrd := del_read xs D j HD.out.1 HJ.out.2.2
      rw [List.getElem?_eq_getElem (by rw [hrl]; exact HJ.out.2.2)] at hrd
      obtain ⟨y, hy⟩ : ∃ y, (D.take j ++ xs.drop j)[j + 1]'(by rw [hrl]; exact HJ.out.2.2) = y := ⟨_, rfl⟩
      rw [hy] at hat hrd
      have HY : Hid (D[j]? = some y ∧ (D.take j ++ xs.drop j).length = xs.length) := ⟨by rw [HD.out.2.2 j HJ.out.1 HJ.out.2.2, ← hrd], hrl⟩
      generalize (D.take j ++ xs.drop j)[j]'(by rw [hrl]; have := HJ.out.2.2; omega) = z at hat0
      clear hy hrd hrl hij hjN hlt
      obtain ⟨yk, ⟨y0, y1, y2, y3, y4⟩, y5, y6, y7⟩ := y
      have hr : (fun u => Box u sb #[V l, V f, .slice (some ⟨g, 0, none⟩) N cp] ∧ EntAt u g ((j + 1) * 9) (yk, ⟨y0, y1, y2, y3, y4⟩, ⟨y5, y6, y7⟩)) wr.drew := ⟨hX.st, hat⟩
      refine wp_region_held_drew (S := fun u => Box u sb #[V l, V f, .slice (some ⟨g, 0, none⟩) N cp] ∧ EntAt u g ((j + 1) * 9) (yk, ⟨y0, y1, y2, y3, y4⟩, ⟨y5, y6, y7⟩)) (by kernel_rfl) hr (fun hs0 => ?_)
      clear hs0
      generalize wr.drew = wd at *
      refine take_to (some 158) (i := 0) (v := .pointer (some ⟨sb, 0, none⟩)) rfl rfl (by kernel_rfl) (by kernel_rfl) (by kernel_rfl) (fun _ _ _ h => h) (Or.inl ⟨by kernel_rfl, by intro u hSu; go_simp⟩) hr ?_
      simp only [Act.put, List.setIfInBounds_toArray, List.set_cons_zero, List.set_cons_succ]
      refine take_to (some 159) (i := 1) (v := .pointer (some ⟨sb, 0, none⟩)) rfl rfl (by kernel_rfl) (by kernel_rfl) (by kernel_rfl) (fun _ _ _ h => h) (Or.inl ⟨by kernel_rfl, by intro u hSu; go_simp⟩) hr ?_
      simp only [Act.put, List.setIfInBounds_toArray, List.set_cons_zero, List.set_cons_succ]
      refine take_to (some 160) (i := 2) (v := .pointer (some ⟨sb, 2, none⟩)) rfl rfl (by kernel_rfl) (by kernel_rfl) (by kernel_rfl) (fun _ _ _ h => h) (Or.inl ⟨by kernel_rfl, by intro u hSu; go_simp⟩) hr ?_
      simp only [Act.put, List.setIfInBounds_toArray, List.set_cons_zero, List.set_cons_succ]
      refine take_to (some 161) (i := 3) (v := .slice (some ⟨g, 0, none⟩) N cp) rfl rfl (by kernel_rfl) (by kernel_rfl) (by kernel_rfl) (fun _ _ _ h => h) (Or.inl ⟨by kernel_rfl, by intro u hSu; obtain ⟨⟨s0, s1, s2⟩, _⟩ := (⟨hSu.1.c3, hSu.2⟩ : (_ ∧ _ ∧ _) ∧ _); go_simp⟩) hr ?_
      simp only [Act.put, List.setIfInBounds_toArray, List.set_cons_zero, List.set_cons_succ]
      refine take_to (some 162) (i := 4) (v := .int .i64 (j : Int)) rfl rfl (by kernel_rfl) (by kernel_rfl) (by kernel_rfl) (fun _ _ _ h => h) (Or.inl ⟨by kernel_rfl, by intro u hSu; go_simp⟩) hr ?_
      simp only [Act.put, List.setIfInBounds_toArray, List.set_cons_zero, List.set_cons_succ]
      refine take_to (some 163) (i := 5) (v := .pointer (some ⟨sb, 0, none⟩)) rfl rfl (by kernel_rfl) (by kernel_rfl) (by kernel_rfl) (fun _ _ _ h => h) (Or.inl ⟨by kernel_rfl, by intro u hSu; go_simp⟩) hr ?_
      simp only [Act.put, List.setIfInBounds_toArray, List.set_cons_zero, List.set_cons_succ]
      refine take_to (some 164) (i := 6) (v := .pointer (some ⟨sb, 0, none⟩)) rfl rfl (by kernel_rfl) (by kernel_rfl) (by kernel_rfl) (fun _ _ _ h => h) (Or.inl ⟨by kernel_rfl, by intro u hSu; go_simp⟩) hr ?_
      simp only [Act.put, List.setIfInBounds_toArray, List.set_cons_zero, List.set_cons_succ]
      refine take_to (some 165) (i := 7) (v := .pointer (some ⟨sb, 2, none⟩)) rfl rfl (by kernel_rfl) (by kernel_rfl) (by kernel_rfl) (fun _ _ _ h => h) (Or.inl ⟨by kernel_rfl, by intro u hSu; go_simp⟩) hr ?_
      simp only [Act.put, List.setIfInBounds_toArray, List.set_cons_zero, List.set_cons_succ]
      refine take_to (some 166) (i := 8) (v := .slice (some ⟨g, 0, none⟩) N cp) rfl rfl (by kernel_rfl) (by kernel_rfl) (by kernel_rfl) (fun _ _ _ h => h) (Or.inl ⟨by kernel_rfl, by intro u hSu; obtain ⟨⟨s0, s1, s2⟩, _⟩ := (⟨hSu.1.c3, hSu.2⟩ : (_ ∧ _ ∧ _) ∧ _); go_simp⟩) hr ?_
      simp only [Act.put, List.setIfInBounds_toArray, List.set_cons_zero, List.set_cons_succ]
      refine take_to (some 167) (i := 9) (v := .int .i64 (j : Int)) rfl rfl (by kernel_rfl) (by kernel_rfl) (by kernel_rfl) (fun _ _ _ h => h) (Or.inl ⟨by kernel_rfl, by intro u hSu; go_simp⟩) hr ?_
      simp only [Act.put, List.setIfInBounds_toArray, List.set_cons_zero, List.set_cons_succ]
      refine take_to (some 168) (i := 10) (v := .int .i64 ((j : Int) + 1)) rfl rfl (by kernel_rfl) (by kernel_rfl) (by kernel_rfl) (fun _ _ _ h => h) (Or.inl ⟨by kernel_rfl, by intro u hSu; go_simp⟩) hr ?_
      simp only [Act.put, List.setIfInBounds_toArray, List.set_cons_zero, List.set_cons_succ]
      refine take_to (some 169) (i := 11) (v := .pointer (some ⟨g, (j + 1) * 9, none⟩)) rfl rfl (by kernel_rfl) (by kernel_rfl) (by kernel_rfl) (fun _ _ _ h => h) (Or.inl ⟨by kernel_rfl, by intro u hSu; go_simp⟩) hr ?_
      simp only [Act.put, List.setIfInBounds_toArray, List.set_cons_zero, List.set_cons_succ]
      refine take_to (some 170) (i := 12) (v := .agg #[.string yk, .int .i64 y0, V y1, V y2, V y3, V y4, V y5, V y6, V y7]) rfl rfl (by kernel_rfl) (by kernel_rfl) (by kernel_rfl) (fun _ _ _ h => h) (Or.inl ⟨by kernel_rfl, by intro u hSu; obtain ⟨d0, d1, d2, d3, d4, d5, d6, d7, d8⟩ := hSu.2; go_simp⟩) hr ?_
      simp only [Act.put, List.setIfInBounds_toArray, List.set_cons_zero, List.set_cons_succ]
      refine take_to (some 171) (i := 13) (v := .pointer (some ⟨g, j * 9, none⟩)) rfl rfl (by kernel_rfl) (by kernel_rfl) (by kernel_rfl) (fun _ _ _ h => h) (Or.inl ⟨by kernel_rfl, by intro u hSu; go_simp⟩) hr ?_
      simp only [Act.put, List.setIfInBounds_toArray, List.set_cons_zero, List.set_cons_succ]
      refine wpAnyH_ready (rs := [14]) (by kernel_rfl) (by simp) ?_
      refine AllReadyH.cons rfl (fun K hK => ?_) AllReadyH.nil
      obtain ⟨d0, d1, d2, d3, d4, d5, d6, d7, d8⟩ := hat0
      have gf : ∀ t, wd.frozen? ⟨g, t, none⟩ = false := fun t => hX.own.frozen
      go_simp
      have hX2 := hX.put j (by have := HY.out.2; have := HJ.out.2.2; omega) (yk, ⟨y0, y1, y2, y3, y4⟩, ⟨y5, y6, y7⟩)
      rw [del_shift xs D j (yk, ⟨y0, y1, y2, y3, y4⟩, ⟨y5, y6, y7⟩) HD.out.1 HJ.out.2.2 HY.out.1] at hX2
      have hat2 := hX2.own.here (j + 1) (by have := HD.out.1; have := HJ.out.2.2; simp only [List.length_append, List.length_take, List.length_drop]; omega)
      have hsame : (D.take (j + 1) ++ xs.drop (j + 1))[j + 1]'(by have := HD.out.1; have := HJ.out.2.2; simp only [List.length_append, List.length_take, List.length_drop]; omega) = (yk, ⟨y0, y1, y2, y3, y4⟩, ⟨y5, y6, y7⟩) := by
        have h1 := del_next xs D j HD.out.1 HJ.out.2.2
        rw [List.getElem?_eq_getElem (by have := HD.out.1; have := HJ.out.2.2; simp only [List.length_append, List.length_take, List.length_drop]; omega), ← HD.out.2.2 j HJ.out.1 HJ.out.2.2, HY.out.1] at h1
        exact Option.some.inj h1
      rw [hsame] at hat2
      obtain ⟨wz, hwz⟩ : ∃ wz, wd.setCells g (j * 9) (EC (yk, ⟨y0, y1, y2, y3, y4⟩, ⟨y5, y6, y7⟩)) = wz := ⟨_, rfl⟩
      rw [hwz] at hX2 hat2
      generalize hq : World.setCell _ _ _ = wq
      obtain rfl : wq = wz := hq.symm.trans hwz
      refine hK.out _ _ ⟨hX2.st, hat2⟩ (fun _ => ?_)
      clear hK K hq hwz d0 d1 d2 d3 d4 d5 d6 d7 d8 gf hX hat2 hsame hat hr
      refine wpAnyH_done (by kernel_rfl) ?_ _
      go_wp2
      go_roundg (N - (j + 1))
      case measure => have := HJ.out.2.1; omega
      case rel => exact ⟨j + 1, by have := HJ.out.1; omega, HJ.out.2.1, rfl, by go_num, hX2⟩
    · have hlt' : ¬ (j : Int) + 1 < (N : Int) := by omega
      have hlt2 : decide (j + 1 < N) = false := decide_eq_false hlt
      have hlt3 : decide ((j : Int) + 1 < (N : Int)) = false := decide_eq_false hlt'
      have HJ : Hid (i ≤ j ∧ j + 1 = N ∧ j + 1 = xs.length) := ⟨hij, by omega, by have := HO.out.2.1; omega⟩
      go_upto_region 26 with fail
      clear s0 s1 s2 hlt' hlt2 hlt3
      have hX := HF.out.up (Up.drew wr)
      clear HF
      obtain ⟨z, hz⟩ := del_end xs D j HD.out.1 HJ.out.2.2
      rw [hz] at hX
      have hDl : D.length = j := by have := HD.out.1; have := HJ.out.2.2; omega
      have hY := hX.own.cutLast
      rw [hDl] at hY
      have HY : Hid (OwnE wr.drew base (.slice (some ⟨g, 0, none⟩) j cp) D) := hY
      have e2 : IntKind.i64.wrap ((N : Int) - 1) = (j : Int) := by have := IntKind.wrap_i64 ((N : Int) - 1); have := HJ.out.2.1; omega
      have hcp : (j : Int) ≤ (cp : Int) := by
        rcases hX.own.parts with ⟨e, _⟩ | ⟨g', cap', cur, e, _, _, _, hnc, _⟩
        · cases e
        · simp only [Value.slice.injEq] at e
          obtain ⟨_, _, rfl⟩ := e
          simp at hnc
          omega
      clear hY hz hDl hij hjN hlt e1
      refine wp_region_held_drew (S := fun _ => True) (by kernel_rfl) trivial (fun hs0 => ?_)
      clear hs0
      generalize wr.drew = wd at *
      refine take_to (some 172) (i := 0) (v := .pointer (some ⟨sb, 0, none⟩)) rfl rfl (by kernel_rfl) (by kernel_rfl) (by kernel_rfl) (fun _ _ _ h => h) (Or.inl ⟨by kernel_rfl, by intro u hSu; go_simp⟩) trivial ?_
      simp only [Act.put, List.setIfInBounds_toArray, List.set_cons_zero, List.set_cons_succ]
      refine take_to (some 173) (i := 1) (v := .pointer (some ⟨sb, 0, none⟩)) rfl rfl (by kernel_rfl) (by kernel_rfl) (by kernel_rfl) (fun _ _ _ h => h) (Or.inl ⟨by kernel_rfl, by intro u hSu; go_simp⟩) trivial ?_
      simp only [Act.put, List.setIfInBounds_toArray, List.set_cons_zero, List.set_cons_succ]
      refine take_to (some 174) (i := 2) (v := .pointer (some ⟨sb, 0, none⟩)) rfl rfl (by kernel_rfl) (by kernel_rfl) (by kernel_rfl) (fun _ _ _ h => h) (Or.inl ⟨by kernel_rfl, by intro u hSu; go_simp⟩) trivial ?_
      simp only [Act.put, List.setIfInBounds_toArray, List.set_cons_zero, List.set_cons_succ]
      refine take_to (some 175) (i := 3) (v := .pointer (some ⟨sb, 2, none⟩)) rfl rfl (by kernel_rfl) (by kernel_rfl) (by kernel_rfl) (fun _ _ _ h => h) (Or.inl ⟨by kernel_rfl, by intro u hSu; go_simp⟩) trivial ?_
      simp only [Act.put, List.setIfInBounds_toArray, List.set_cons_zero, List.set_cons_succ]
      refine take_to (some 177) (i := 5) (v := .pointer (some ⟨sb, 0, none⟩)) rfl rfl (by kernel_rfl) (by kernel_rfl) (by kernel_rfl) (fun _ _ _ h => h) (Or.inl ⟨by kernel_rfl, by intro u hSu; go_simp⟩) trivial ?_
      simp only [Act.put, List.setIfInBounds_toArray, List.set_cons_zero, List.set_cons_succ]
      refine take_to (some 178) (i := 6) (v := .pointer (some ⟨sb, 0, none⟩)) rfl rfl (by kernel_rfl) (by kernel_rfl) (by kernel_rfl) (fun _ _ _ h => h) (Or.inl ⟨by kernel_rfl, by intro u hSu; go_simp⟩) trivial ?_
      simp only [Act.put, List.setIfInBounds_toArray, List.set_cons_zero, List.set_cons_succ]
      refine take_to (some 179) (i := 7) (v := .pointer (some ⟨sb, 2, none⟩)) rfl rfl (by kernel_rfl) (by kernel_rfl) (by kernel_rfl) (fun _ _ _ h => h) (Or.inl ⟨by kernel_rfl, by intro u hSu; go_simp⟩) trivial ?_
      simp only [Act.put, List.setIfInBounds_toArray, List.set_cons_zero, List.set_cons_succ]
      refine wpAnyH_ready (rs := [4, 8]) (by kernel_rfl) (by simp) ?_
      refine AllReadyH.cons rfl (fun K hK => ?_) (AllReadyH.cons rfl (fun K hK => ?_) AllReadyH.nil)
      · skip
        obtain ⟨s0, s1, s2⟩ := hX.st.c3
        go_simp
        clear s0 s1 s2
        refine hK.out _ _ trivial (fun _ => ?_)
        clear hK K
        refine wpAnyH_ready (rs := [8]) (by kernel_rfl) (by simp) ?_
        refine AllReadyH.cons rfl (fun K hK => ?_) AllReadyH.nil
        obtain ⟨s0, s1, s2⟩ := hX.st.c3
        go_simp
        clear s0 s1 s2
        refine hK.out _ _ trivial (fun _ => ?_)
        clear hK K
        refine take_to (some 181) (i := 9) (v := .int .i64 (N : Int)) rfl rfl (by kernel_rfl) (by kernel_rfl) (by kernel_rfl) (fun _ _ _ h => h) (Or.inl ⟨by kernel_rfl, by intro u hSu; go_simp⟩) trivial ?_
        simp only [Act.put, List.setIfInBounds_toArray, List.set_cons_zero, List.set_cons_succ]
        refine take_to (some 182) (i := 10) (v := .int .i64 (j : Int)) rfl rfl (by kernel_rfl) (by kernel_rfl) (by kernel_rfl) (fun _ _ _ h => h) (Or.inl ⟨by kernel_rfl, by intro u hSu; go_simp⟩) trivial ?_
        simp only [Act.put, List.setIfInBounds_toArray, List.set_cons_zero, List.set_cons_succ]
        refine take_to (some 183) (i := 11) (v := .slice (some ⟨g, 0, none⟩) j cp) rfl rfl (by kernel_rfl) (by kernel_rfl) (by kernel_rfl) (fun _ _ _ h => h) (Or.inl ⟨by kernel_rfl, by intro u hSu; go_simp⟩) trivial ?_
        simp only [Act.put, List.setIfInBounds_toArray, List.set_cons_zero, List.set_cons_succ]
        refine take_to (some 184) (i := 12) (v := .pointer (some ⟨sb, 0, none⟩)) rfl rfl (by kernel_rfl) (by kernel_rfl) (by kernel_rfl) (fun _ _ _ h => h) (Or.inl ⟨by kernel_rfl, by intro u hSu; go_simp⟩) trivial ?_
        simp only [Act.put, List.setIfInBounds_toArray, List.set_cons_zero, List.set_cons_succ]
        refine take_to (some 185) (i := 13) (v := .pointer (some ⟨sb, 2, none⟩)) rfl rfl (by kernel_rfl) (by kernel_rfl) (by kernel_rfl) (fun _ _ _ h => h) (Or.inl ⟨by kernel_rfl, by intro u hSu; go_simp⟩) trivial ?_
        simp only [Act.put, List.setIfInBounds_toArray, List.set_cons_zero, List.set_cons_succ]
        refine wpAnyH_ready (rs := [14]) (by kernel_rfl) (by simp) ?_
        refine AllReadyH.cons rfl (fun K hK => ?_) AllReadyH.nil
        obtain ⟨s0, s1, s2⟩ := hX.st.c3
        have g2 := hX.st.frozen 2
        go_simp
        have hX2 := hX.row HY.out
        clear s0 s1 s2 g2 hX
        refine hK.out _ _ trivial (fun _ => ?_)
        clear hK K HY
        refine wpAnyH_done (by kernel_rfl) ?_ _
        generalize World.setCell wd ⟨sb, 2, none⟩ (.slice (some ⟨g, 0, none⟩) j cp) = wx at *
        have hX := hX2
        clear hX2 e2 hcp
        obtain ⟨s0, s1, s2⟩ := hX.st.c3
        have g0 := hX.st.frozen 0
        go_upto_region 28 with fail
        have h2 := hX.cell 0 (V n) (l' := n) (f' := f) rfl
        clear s0 s1 s2 g0 hX
        generalize World.setCell wx ⟨sb, 0, none⟩ (V n) = wy at *
        obtain ⟨s0, s1, s2⟩ := h2.st.c3
        obtain ⟨r0, r1, r2, r3, r4, r5, r6, r7, r8, r9, r10⟩ := h2.rc.c11
        by_cases hgt : (f : Int) < (fl : Int)
        · have hg2 : f < fl := by omega
          have hg3 : decide (f < fl) = true := decide_eq_true hg2
          go_quiet (fail)
          clear s0 s1 s2 r0 r1 r2 r3 r4 r5 r6 r7 r8 r9 r10
          have h3 := h2.up (up_drewN wy nq)
          generalize wy.drewN nq = wz at *
          clear h2
          have HM : Hid (max f fl = fl) := by show _ = _; omega
          clear hgt hg2 hg3
          obtain ⟨s0, s1, s2⟩ := h3.st.c3
          obtain ⟨r0, r1, r2, r3, r4, r5, r6, r7, r8, r9, r10⟩ := h3.rc.c11
          have g1 := h3.st.frozen 1
          have h4 := h3.cell 1 (V fl) (l' := n) (f' := fl) rfl
          clear h3
          go_wp2
          go_ret
          exact ⟨rfl, _, by rw [HM.out]; exact h4.st, h4.own, h4.tt⟩
        · have hg2 : ¬ f < fl := by omega
          have hg3 : decide (f < fl) = false := decide_eq_false hg2
          have hg4 : decide ((f : Int) < (fl : Int)) = false := decide_eq_false hgt
          go_quiet (fail)
          have h3 := h2.up (up_drewN wy nq)
          have HM : Hid (max f fl = f) := by show _ = _; omega
          clear h2 hgt hg2 hg3 hg4 s0 s1 s2 r0 r1 r2 r3 r4 r5 r6 r7 r8 r9 r10
          go_wp2
          go_ret
          exact ⟨rfl, _, by rw [HM.out]; exact h3.st, h3.own, h3.tt⟩
      · skip
        obtain ⟨s0, s1, s2⟩ := hX.st.c3
        go_simp
        clear s0 s1 s2
        refine hK.out _ _ trivial (fun _ => ?_)
        clear hK K
        refine take_to (some 181) (i := 9) (v := .int .i64 (N : Int)) rfl rfl (by kernel_rfl) (by kernel_rfl) (by kernel_rfl) (fun _ _ _ h => h) (Or.inl ⟨by kernel_rfl, by intro u hSu; go_simp⟩) trivial ?_
        simp only [Act.put, List.setIfInBounds_toArray, List.set_cons_zero, List.set_cons_succ]
        refine take_to (some 182) (i := 10) (v := .int .i64 (j : Int)) rfl rfl (by kernel_rfl) (by kernel_rfl) (by kernel_rfl) (fun _ _ _ h => h) (Or.inl ⟨by kernel_rfl, by intro u hSu; go_simp⟩) trivial ?_
        simp only [Act.put, List.setIfInBounds_toArray, List.set_cons_zero, List.set_cons_succ]
        refine wpAnyH_ready (rs := [4]) (by kernel_rfl) (by simp) ?_
        refine AllReadyH.cons rfl (fun K hK => ?_) AllReadyH.nil
        obtain ⟨s0, s1, s2⟩ := hX.st.c3
        go_simp
        clear s0 s1 s2
        refine hK.out _ _ trivial (fun _ => ?_)
        clear hK K
        refine take_to (some 183) (i := 11) (v := .slice (some ⟨g, 0, none⟩) j cp) rfl rfl (by kernel_rfl) (by kernel_rfl) (by kernel_rfl) (fun _ _ _ h => h) (Or.inl ⟨by kernel_rfl, by intro u hSu; go_simp⟩) trivial ?_
        simp only [Act.put, List.setIfInBounds_toArray, List.set_cons_zero, List.set_cons_succ]
        refine take_to (some 184) (i := 12) (v := .pointer (some ⟨sb, 0, none⟩)) rfl rfl (by kernel_rfl) (by kernel_rfl) (by kernel_rfl) (fun _ _ _ h => h) (Or.inl ⟨by kernel_rfl, by intro u hSu; go_simp⟩) trivial ?_
        simp only [Act.put, List.setIfInBounds_toArray, List.set_cons_zero, List.set_cons_succ]
        refine take_to (some 185) (i := 13) (v := .pointer (some ⟨sb, 2, none⟩)) rfl rfl (by kernel_rfl) (by kernel_rfl) (by kernel_rfl) (fun _ _ _ h => h) (Or.inl ⟨by kernel_rfl, by intro u hSu; go_simp⟩) trivial ?_
        simp only [Act.put, List.setIfInBounds_toArray, List.set_cons_zero, List.set_cons_succ]
        refine wpAnyH_ready (rs := [14]) (by kernel_rfl) (by simp) ?_
        refine AllReadyH.cons rfl (fun K hK => ?_) AllReadyH.nil
        obtain ⟨s0, s1, s2⟩ := hX.st.c3
        have g2 := hX.st.frozen 2
        go_simp
        have hX2 := hX.row HY.out
        clear s0 s1 s2 g2 hX
        refine hK.out _ _ trivial (fun _ => ?_)
        clear hK K HY
        refine wpAnyH_done (by kernel_rfl) ?_ _
        generalize World.setCell wd ⟨sb, 2, none⟩ (.slice (some ⟨g, 0, none⟩) j cp) = wx at *
        have hX := hX2
        clear hX2 e2 hcp
        obtain ⟨s0, s1, s2⟩ := hX.st.c3
        have g0 := hX.st.frozen 0
        go_upto_region 28 with fail
        have h2 := hX.cell 0 (V n) (l' := n) (f' := f) rfl
        clear s0 s1 s2 g0 hX
        generalize World.setCell wx ⟨sb, 0, none⟩ (V n) = wy at *
        obtain ⟨s0, s1, s2⟩ := h2.st.c3
        obtain ⟨r0, r1, r2, r3, r4, r5, r6, r7, r8, r9, r10⟩ := h2.rc.c11
        by_cases hgt : (f : Int) < (fl : Int)
        · have hg2 : f < fl := by omega
          have hg3 : decide (f < fl) = true := decide_eq_true hg2
          go_quiet (fail)
          clear s0 s1 s2 r0 r1 r2 r3 r4 r5 r6 r7 r8 r9 r10
          have h3 := h2.up (up_drewN wy nq)
          generalize wy.drewN nq = wz at *
          clear h2
          have HM : Hid (max f fl = fl) := by show _ = _; omega
          clear hgt hg2 hg3
          obtain ⟨s0, s1, s2⟩ := h3.st.c3
          obtain ⟨r0, r1, r2, r3, r4, r5, r6, r7, r8, r9, r10⟩ := h3.rc.c11
          have g1 := h3.st.frozen 1
          have h4 := h3.cell 1 (V fl) (l' := n) (f' := fl) rfl
          clear h3
          go_wp2
          go_ret
          exact ⟨rfl, _, by rw [HM.out]; exact h4.st, h4.own, h4.tt⟩
        · have hg2 : ¬ f < fl := by omega
          have hg3 : decide (f < fl) = false := decide_eq_false hg2
          have hg4 : decide ((f : Int) < (fl : Int)) = false := decide_eq_false hgt
          go_quiet (fail)
          have h3 := h2.up (up_drewN wy nq)
          have HM : Hid (max f fl = f) := by show _ = _; omega
          clear h2 hgt hg2 hg3 hg4 s0 s1 s2 r0 r1 r2 r3 r4 r5 r6 r7 r8 r9 r10
          go_wp2
          go_ret
          exact ⟨rfl, _, by rw [HM.out]; exact h3.st, h3.own, h3.tt⟩
end Go.Proofs.YtdddfapelencoaaDoor
