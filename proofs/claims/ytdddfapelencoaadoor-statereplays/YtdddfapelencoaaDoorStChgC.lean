/- state: change, a define (laid by genChg.py). Own work. -/
import Derived.Test.YtdddfapelencoaaDoorStChg0
set_option linter.unusedVariables false
set_option linter.unusedSimpArgs false
namespace Go.Proofs.YtdddfapelencoaaDoor
open Go Go.RowKit

set_option maxRecDepth 20000 in
set_option maxHeartbeats 3200000 in
theorem change_def (sb l f N cp i : Nat) (a0 : Option Addr) (fl : Nat) (S : ByteArray) (pk : Int) (rg rs rl rp rt ri rc : Nat) (w : World) (hb : Box w sb #[V l, V f, .slice a0 N cp]) (hi : i ≤ N) (hN : N ≤ 4096)
    (hF : ∀ u, Up w u → Calls Tryd.prog 9 #[.agg #[V l, V f, .slice a0 N cp], .string S] u fun e w' => e = .returned (.tuple #[.int .i64 (i : Int), .bool false]) ∧ Up u w') (base : Nat) (xs : List Ent) (ho : OwnE w base (.slice a0 N cp) xs) (hlen : xs.length = N) (hlt : N < 4096) (hS : S.size ≤ 64) (hsb : sb < base) (hbase : base ≤ w.heap.size) :
    Calls Tryd.prog 48 #[.pointer (some ⟨sb, 0, none⟩), .agg #[.int .i64 1, V fl, .string S, .int .i64 pk, V rg, V rs, V rl, V rp, V rt, V ri, V rc]] w fun e w' => e = .returned (.bool true) ∧ ∃ v', Box w' sb #[V l, V f, v'] ∧ OwnE w' base v' (xs.take i ++ (S, ⟨pk, rg, rs, rl, rp⟩, Lev0) :: xs.drop i) ∧ Touch w w' (sb :: ob (.slice a0 N cp)) := by
  have HF : Hid (∀ u, Up w u → Calls Tryd.prog 9 #[.agg #[V l, V f, .slice a0 N cp], .string S] u fun e w' => e = .returned (.tuple #[.int .i64 (i : Int), .bool false]) ∧ Up u w') := hF
  have b0 : Box (w.alloc (.cells #[.int .i64 1, V fl, .string S, .int .i64 pk, V rg, V rs, V rl, V rp, V rt, V ri, V rc] 39)) w.heap.size #[.int .i64 1, V fl, .string S, .int .i64 pk, V rg, V rs, V rl, V rp, V rt, V ri, V rc] := Box.new _ _ _
  have u0 : Up w (w.alloc (.cells #[.int .i64 1, V fl, .string S, .int .i64 pk, V rg, V rs, V rl, V rp, V rt, V ri, V rc] 39)) := Up.alloc _ _
  have b1 := hb.up u0
  obtain ⟨B, hB⟩ : ∃ B, w.heap.size = B := ⟨_, rfl⟩
  have HB : Hid (w.heap.size = B) := hB
  have hN1 : (N : Int) ≤ 4096 := by omega
  have hi1 : (i : Int) ≤ (N : Int) := by omega
  rw [hB] at b0
  clear hF hb
  go_enter Tryd.func48, Tryd.ntmps48
  go_upto_region 1 with fail
  clear hB
  generalize w.alloc (.cells #[.int .i64 1, V fl, .string S, .int .i64 pk, V rg, V rs, V rl, V rp, V rt, V ri, V rc] 39) = w0 at *
  have hU := u0.trans (Up.drew w0)
  have hs : Sg sb B l f (.slice a0 N cp) #[.int .i64 1, V fl, .string S, .int .i64 pk, V rg, V rs, V rl, V rp, V rt, V ri, V rc] w w0.drew := Sg.up ⟨b1, b0, Touch.of_up u0 _⟩ (Up.drew w0)
  clear u0 b0 b1
  refine wp_region_held_drew (S := Sg sb B l f (.slice a0 N cp) #[.int .i64 1, V fl, .string S, .int .i64 pk, V rg, V rs, V rl, V rp, V rt, V ri, V rc] w) (by kernel_rfl) hs (fun hs0 => ?_)
  refine take_to (some 8) (i := 0) (v := .pointer (some ⟨sb, 0, none⟩)) rfl rfl (by kernel_rfl) (by kernel_rfl) (by kernel_rfl) (fun _ _ _ h => h) (Or.inl ⟨by kernel_rfl, by intro u hSu; go_simp⟩) hs ?_
  simp only [Act.put, List.setIfInBounds_toArray, List.set_cons_zero, List.set_cons_succ]
  refine take_to (some 9) (i := 1) (v := .pointer (some ⟨sb, 0, none⟩)) rfl rfl (by kernel_rfl) (by kernel_rfl) (by kernel_rfl) (fun _ _ _ h => h) (Or.inl ⟨by kernel_rfl, by intro u hSu; go_simp⟩) hs ?_
  simp only [Act.put, List.setIfInBounds_toArray, List.set_cons_zero, List.set_cons_succ]
  refine take_to (some 10) (i := 2) (v := .agg #[V l, V f, .slice a0 N cp]) rfl rfl (by kernel_rfl) (by kernel_rfl) (by kernel_rfl) (fun _ _ _ h => h) (Or.inl ⟨by kernel_rfl, by intro u hSu; obtain ⟨s0, s1, s2⟩ := hSu.st.c3; go_simp⟩) hs ?_
  simp only [Act.put, List.setIfInBounds_toArray, List.set_cons_zero, List.set_cons_succ]
  refine take_to (some 11) (i := 3) (v := .pointer (some ⟨B, 2, none⟩)) rfl rfl (by kernel_rfl) (by kernel_rfl) (by kernel_rfl) (fun _ _ _ h => h) (Or.inl ⟨by kernel_rfl, by intro u hSu; go_simp⟩) hs ?_
  simp only [Act.put, List.setIfInBounds_toArray, List.set_cons_zero, List.set_cons_succ]
  refine take_to (some 12) (i := 4) (v := .string S) rfl rfl (by kernel_rfl) (by kernel_rfl) (by kernel_rfl) (fun _ _ _ h => h) (Or.inl ⟨by kernel_rfl, by intro u hSu; obtain ⟨r0, r1, r2, r3, r4, r5, r6, r7, r8, r9, r10⟩ := hSu.rc.c11; go_simp⟩) hs ?_
  simp only [Act.put, List.setIfInBounds_toArray, List.set_cons_zero, List.set_cons_succ]
  refine wpAnyH_ready (rs := [5]) (by kernel_rfl) (by simp) ?_
  refine AllReadyH.cons rfl (fun K hK => ?_) AllReadyH.nil
  go_simp
  refine (HF.out _ hU).mono ?_
  rintro e w1 ⟨rfl, u1⟩
  replace hU := hU.trans u1
  replace hs := hs.up u1
  refine hK.out _ _ hs (fun _ => ?_)
  clear hK K
  refine take_to (some 7) (i := 6) (v := .tuple #[.int .i64 (i : Int), .bool false]) rfl rfl (by kernel_rfl) (by kernel_rfl) (by kernel_rfl) (fun _ _ _ h => h) (Or.inl ⟨by kernel_rfl, by intro u hSu; go_simp⟩) hs ?_
  simp only [Act.put, List.setIfInBounds_toArray, List.set_cons_zero, List.set_cons_succ]
  refine take_to (some 14) (i := 7) (v := .int .i64 (i : Int)) rfl rfl (by kernel_rfl) (by kernel_rfl) (by kernel_rfl) (fun _ _ _ h => h) (Or.inl ⟨by kernel_rfl, by intro u hSu; go_simp⟩) hs ?_
  simp only [Act.put, List.setIfInBounds_toArray, List.set_cons_zero, List.set_cons_succ]
  refine take_to (some 15) (i := 8) (v := .bool false) rfl rfl (by kernel_rfl) (by kernel_rfl) (by kernel_rfl) (fun _ _ _ h => h) (Or.inl ⟨by kernel_rfl, by intro u hSu; go_simp⟩) hs ?_
  simp only [Act.put, List.setIfInBounds_toArray, List.set_cons_zero, List.set_cons_succ]
  refine take_to (some 5) (i := 9) (v := .int .i64 (i : Int)) rfl rfl (by kernel_rfl) (by kernel_rfl) (by kernel_rfl) (fun _ _ _ h => h) (Or.inl ⟨by kernel_rfl, by intro u hSu; go_simp⟩) hs ?_
  simp only [Act.put, List.setIfInBounds_toArray, List.set_cons_zero, List.set_cons_succ]
  refine take_to (some 6) (i := 10) (v := .bool false) rfl rfl (by kernel_rfl) (by kernel_rfl) (by kernel_rfl) (fun _ _ _ h => h) (Or.inl ⟨by kernel_rfl, by intro u hSu; go_simp⟩) hs ?_
  simp only [Act.put, List.setIfInBounds_toArray, List.set_cons_zero, List.set_cons_succ]
  refine wpAnyH_done (by kernel_rfl) ?_ _
  clear HF hs0
  obtain ⟨r0, r1, r2, r3, r4, r5, r6, r7, r8, r9, r10⟩ := hs.rc.c11
  obtain ⟨s0, s1, s2⟩ := hs.st.c3
  have hlt1 : ¬ (4096 : Int) ≤ (N : Int) := by omega
  have HCl : Hid (∀ u, Calls Tryd.prog 46 #[.string S] u fun e w' => e = .returned (.string S) ∧ Up u w') := fun u => strClone_any S u (by omega)
  have HI : Hid (∀ vb u, OwnE u base (.slice a0 N cp) xs → base ≤ u.heap.size → u.heap[vb]? = some (.cells (EC ((S, ⟨pk, rg, rs, rl, rp⟩, Lev0) : Ent)).toArray 58 (0, 0)) → vb ∉ ob (.slice a0 N cp) → Calls Tryd.prog 64 #[.slice a0 N cp, .int .i64 (i : Int), .slice (some ⟨vb, 0, none⟩) 1 1] u fun e w' => ∃ v', e = .returned v' ∧ OwnE w' base v' (xs.take i ++ (S, ⟨pk, rg, rs, rl, rp⟩, Lev0) :: xs.drop i) ∧ Touch u w' (ob (.slice a0 N cp))) :=
    fun vb u hu hb hv hn => insertE_any base _ xs (S, ⟨pk, rg, rs, rl, rp⟩, Lev0) i vb u hu (by omega) (by omega) hb hv hn
  have hsn : sb ∉ ob (.slice a0 N cp) := fun hm => by have := (ho.ge sb hm).1; omega
  have hBn : B ∉ ob (.slice a0 N cp) := fun hm => by have := (ho.ge B hm).2; have := HB.out; omega
  have HH : Hid (sb ∉ ob (.slice a0 N cp) ∧ B ∉ ob (.slice a0 N cp) ∧ sb < base ∧ base ≤ w.heap.size ∧ ∀ k ∈ ob (.slice a0 N cp), k < w.heap.size) := ⟨hsn, hBn, hsb, hbase, fun k hk => (ho.ge k hk).2⟩
  have HO : Hid (OwnE w base (.slice a0 N cp) xs) := ho
  clear ho hlen hlt hS hsb hbase hsn hBn
  go_upto_region 6 with fail
  clear r0 r1 r2 r3 r4 r5 r6 r7 r8 r9 r10 s0 s1 s2
  replace hs := hs.up (Up.drew w1)
  replace hU := hU.trans (Up.drew w1)
  have hr := hs.rc
  refine wp_region_held_drew (S := fun u => Box u B #[.int .i64 1, V fl, .string S, .int .i64 pk, V rg, V rs, V rl, V rp, V rt, V ri, V rc]) (by kernel_rfl) hr (fun hs0 => ?_)
  refine take_to (some 29) (i := 0) (v := .pointer (some ⟨sb, 0, none⟩)) rfl rfl (by kernel_rfl) (by kernel_rfl) (by kernel_rfl) (fun _ _ _ h => h) (Or.inl ⟨by kernel_rfl, by intro u hSu; go_simp⟩) hr ?_
  simp only [Act.put, List.setIfInBounds_toArray, List.set_cons_zero, List.set_cons_succ]
  refine take_to (some 30) (i := 1) (v := .pointer (some ⟨sb, 0, none⟩)) rfl rfl (by kernel_rfl) (by kernel_rfl) (by kernel_rfl) (fun _ _ _ h => h) (Or.inl ⟨by kernel_rfl, by intro u hSu; go_simp⟩) hr ?_
  simp only [Act.put, List.setIfInBounds_toArray, List.set_cons_zero, List.set_cons_succ]
  refine take_to (some 31) (i := 2) (v := .pointer (some ⟨sb, 0, none⟩)) rfl rfl (by kernel_rfl) (by kernel_rfl) (by kernel_rfl) (fun _ _ _ h => h) (Or.inl ⟨by kernel_rfl, by intro u hSu; go_simp⟩) hr ?_
  simp only [Act.put, List.setIfInBounds_toArray, List.set_cons_zero, List.set_cons_succ]
  refine take_to (some 32) (i := 3) (v := .pointer (some ⟨sb, 2, none⟩)) rfl rfl (by kernel_rfl) (by kernel_rfl) (by kernel_rfl) (fun _ _ _ h => h) (Or.inl ⟨by kernel_rfl, by intro u hSu; go_simp⟩) hr ?_
  simp only [Act.put, List.setIfInBounds_toArray, List.set_cons_zero, List.set_cons_succ]
  refine take_to (some 34) (i := 5) (v := .int .i64 (i : Int)) rfl rfl (by kernel_rfl) (by kernel_rfl) (by kernel_rfl) (fun _ _ _ h => h) (Or.inl ⟨by kernel_rfl, by intro u hSu; go_simp⟩) hr ?_
  simp only [Act.put, List.setIfInBounds_toArray, List.set_cons_zero, List.set_cons_succ]
  refine take_to (some 35) (i := 6) (v := .pointer (some ⟨B, 2, none⟩)) rfl rfl (by kernel_rfl) (by kernel_rfl) (by kernel_rfl) (fun _ _ _ h => h) (Or.inl ⟨by kernel_rfl, by intro u hSu; go_simp⟩) hr ?_
  simp only [Act.put, List.setIfInBounds_toArray, List.set_cons_zero, List.set_cons_succ]
  refine take_to (some 36) (i := 7) (v := .string S) rfl rfl (by kernel_rfl) (by kernel_rfl) (by kernel_rfl) (fun _ _ _ h => h) (Or.inl ⟨by kernel_rfl, by intro u hSu; obtain ⟨r0, r1, r2, r3, r4, r5, r6, r7, r8, r9, r10⟩ := Box.c11 hSu; go_simp⟩) hr ?_
  simp only [Act.put, List.setIfInBounds_toArray, List.set_cons_zero, List.set_cons_succ]
  refine take_to (some 38) (i := 9) (v := .pointer (some ⟨B, 3, none⟩)) rfl rfl (by kernel_rfl) (by kernel_rfl) (by kernel_rfl) (fun _ _ _ h => h) (Or.inl ⟨by kernel_rfl, by intro u hSu; go_simp⟩) hr ?_
  simp only [Act.put, List.setIfInBounds_toArray, List.set_cons_zero, List.set_cons_succ]
  refine take_to (some 39) (i := 10) (v := .agg #[.int .i64 pk, V rg, V rs, V rl, V rp]) rfl rfl (by kernel_rfl) (by kernel_rfl) (by kernel_rfl) (fun _ _ _ h => h) (Or.inl ⟨by kernel_rfl, by intro u hSu; obtain ⟨r0, r1, r2, r3, r4, r5, r6, r7, r8, r9, r10⟩ := Box.c11 hSu; go_simp⟩) hr ?_
  simp only [Act.put, List.setIfInBounds_toArray, List.set_cons_zero, List.set_cons_succ]
  refine wpAnyH_ready (rs := [4, 8]) (by kernel_rfl) (by simp) ?_
  refine AllReadyH.cons rfl (fun K hK => ?_) (AllReadyH.cons rfl (fun K hK => ?_) AllReadyH.nil)
  · skip
    obtain ⟨s0, s1, s2⟩ := hs.st.c3
    go_simp
    refine hK.out _ _ hr (fun _ => ?_)
    clear hK K
    clear s0 s1 s2
    refine wpAnyH_ready (rs := [8]) (by kernel_rfl) (by simp) ?_
    refine AllReadyH.cons rfl (fun K hK => ?_) AllReadyH.nil
    go_simp
    refine (HCl.out _).mono ?_
    rintro e w2 ⟨rfl, u2⟩
    replace hU := hU.trans u2
    replace hs := hs.up u2
    replace hr := hr.up u2
    clear u2
    refine hK.out _ _ hr (fun _ => ?_)
    clear hK K
    refine wpAnyH_ready (rs := [11]) (by kernel_rfl) (by simp) ?_
    refine AllReadyH.cons rfl (fun K hK => ?_) AllReadyH.nil
    go_simp
    refine hK.out _ _ hr (fun _ => ?_)
    clear hK K
    refine wpAnyH_ready (rs := [12]) (by kernel_rfl) (by simp) ?_
    refine AllReadyH.cons rfl (fun K hK => ?_) AllReadyH.nil
    go_simp
    have ua : Up w2 (w2.alloc (.cells #[.string S, .int .i64 pk, V rg, V rs, V rl, V rp, .int .u64 0, .int .u64 0, .int .u64 0] 58)) := Up.alloc _ _
    have hva : (w2.alloc (.cells #[.string S, .int .i64 pk, V rg, V rs, V rl, V rp, .int .u64 0, .int .u64 0, .int .u64 0] 58)).heap[w2.heap.size]? = some (.cells #[.string S, .int .i64 pk, V rg, V rs, V rl, V rp, .int .u64 0, .int .u64 0, .int .u64 0] 58 (0, 0)) := heap_alloc_new _ _
    have hsz : w.heap.size ≤ w2.heap.size := hU.size
    replace hU := hU.trans ua
    replace hs := hs.up ua
    replace hr := hr.up ua
    refine hK.out _ _ hr (fun _ => ?_)
    clear hK K ua
    generalize w2.alloc (.cells #[.string S, .int .i64 pk, V rg, V rs, V rl, V rp, .int .u64 0, .int .u64 0, .int .u64 0] 58) = w3 at *
    generalize w2.heap.size = vb at *
    refine wpAnyH_ready (rs := [13]) (by kernel_rfl) (by simp) ?_
    refine AllReadyH.cons rfl (fun K hK => ?_) AllReadyH.nil
    go_simp
    refine (HI.out vb w3 (HO.out.up hU) (Nat.le_trans HH.out.2.2.2.1 hU.size) hva (fun hm => by have := HH.out.2.2.2.2 vb hm; omega)).mono ?_
    rintro e w4 ⟨v', rfl, o4, t4⟩
    replace hs := hs.touch t4 HH.out.1 HH.out.2.1
    replace hr := Touch.box hr t4 HH.out.2.1
    obtain ⟨a1, M, c1, rfl⟩ : ∃ a1 M c1, v' = .slice a1 M c1 := by obtain ⟨a1, c1, e⟩ := o4.shape; exact ⟨_, _, _, e⟩
    refine hK.out _ _ hr (fun _ => ?_)
    clear hK K hU hva hsz
    refine wpAnyH_ready (rs := [14]) (by kernel_rfl) (by simp) ?_
    refine AllReadyH.cons rfl (fun K hK => ?_) AllReadyH.nil
    go_simp
    refine hK.out _ _ hr (fun _ => ?_)
    clear hK K
    refine wpAnyH_ready (rs := [15]) (by kernel_rfl) (by simp) ?_
    refine AllReadyH.cons rfl (fun K hK => ?_) AllReadyH.nil
    go_simp
    refine hK.out _ _ hr (fun _ => ?_)
    clear hK K
    refine wpAnyH_ready (rs := [16]) (by kernel_rfl) (by simp) ?_
    refine AllReadyH.cons rfl (fun K hK => ?_) AllReadyH.nil
    obtain ⟨x0, x1, x2⟩ := hs.st.c3
    have xf := hs.st.frozen 2
    have HS4 : Hid (Sg sb B l f (.slice a0 N cp) #[.int .i64 1, V fl, .string S, .int .i64 pk, V rg, V rs, V rl, V rp, V rt, V ri, V rc] w w4 ∧ OwnE w4 base (.slice a1 M c1) (xs.take i ++ ((S, ⟨pk, rg, rs, rl, rp⟩, Lev0) : Ent) :: xs.drop i)) := ⟨hs, o4⟩
    clear o4 t4
    go_simp
    have hne : B ≠ sb := fun e => by have h1 := HH.out.2.2.1; have h2 := HH.out.2.2.2.1; have h3 := HB.out; omega
    refine hK.out _ _ (hr.other hne 2 _) (fun _ => ?_)
    clear hK K
    refine wpAnyH_done (by kernel_rfl) ?_ _
    go_wp2
    go_ret
    have st := HS4.out.1.store (v' := .slice a1 M c1)
    exact ⟨rfl, _, st.1, HS4.out.2.kept ((Touch.refl _ _).setCell (S := [sb]) (.inl (by simp)) _ _) (fun k hk => by have := (HS4.out.2.ge k hk).1; have := HH.out.2.2.1; simp; omega), st.2⟩
  · skip
    go_simp
    refine (HCl.out _).mono ?_
    rintro e w2 ⟨rfl, u2⟩
    replace hU := hU.trans u2
    replace hs := hs.up u2
    replace hr := hr.up u2
    clear u2
    refine hK.out _ _ hr (fun _ => ?_)
    clear hK K
    refine wpAnyH_ready (rs := [4, 11]) (by kernel_rfl) (by simp) ?_
    refine AllReadyH.cons rfl (fun K hK => ?_) (AllReadyH.cons rfl (fun K hK => ?_) AllReadyH.nil)
    · skip
      obtain ⟨s0, s1, s2⟩ := hs.st.c3
      go_simp
      refine hK.out _ _ hr (fun _ => ?_)
      clear hK K
      clear s0 s1 s2
      refine wpAnyH_ready (rs := [11]) (by kernel_rfl) (by simp) ?_
      refine AllReadyH.cons rfl (fun K hK => ?_) AllReadyH.nil
      go_simp
      refine hK.out _ _ hr (fun _ => ?_)
      clear hK K
      refine wpAnyH_ready (rs := [12]) (by kernel_rfl) (by simp) ?_
      refine AllReadyH.cons rfl (fun K hK => ?_) AllReadyH.nil
      go_simp
      have ua : Up w2 (w2.alloc (.cells #[.string S, .int .i64 pk, V rg, V rs, V rl, V rp, .int .u64 0, .int .u64 0, .int .u64 0] 58)) := Up.alloc _ _
      have hva : (w2.alloc (.cells #[.string S, .int .i64 pk, V rg, V rs, V rl, V rp, .int .u64 0, .int .u64 0, .int .u64 0] 58)).heap[w2.heap.size]? = some (.cells #[.string S, .int .i64 pk, V rg, V rs, V rl, V rp, .int .u64 0, .int .u64 0, .int .u64 0] 58 (0, 0)) := heap_alloc_new _ _
      have hsz : w.heap.size ≤ w2.heap.size := hU.size
      replace hU := hU.trans ua
      replace hs := hs.up ua
      replace hr := hr.up ua
      refine hK.out _ _ hr (fun _ => ?_)
      clear hK K ua
      generalize w2.alloc (.cells #[.string S, .int .i64 pk, V rg, V rs, V rl, V rp, .int .u64 0, .int .u64 0, .int .u64 0] 58) = w3 at *
      generalize w2.heap.size = vb at *
      refine wpAnyH_ready (rs := [13]) (by kernel_rfl) (by simp) ?_
      refine AllReadyH.cons rfl (fun K hK => ?_) AllReadyH.nil
      go_simp
      refine (HI.out vb w3 (HO.out.up hU) (Nat.le_trans HH.out.2.2.2.1 hU.size) hva (fun hm => by have := HH.out.2.2.2.2 vb hm; omega)).mono ?_
      rintro e w4 ⟨v', rfl, o4, t4⟩
      replace hs := hs.touch t4 HH.out.1 HH.out.2.1
      replace hr := Touch.box hr t4 HH.out.2.1
      obtain ⟨a1, M, c1, rfl⟩ : ∃ a1 M c1, v' = .slice a1 M c1 := by obtain ⟨a1, c1, e⟩ := o4.shape; exact ⟨_, _, _, e⟩
      refine hK.out _ _ hr (fun _ => ?_)
      clear hK K hU hva hsz
      refine wpAnyH_ready (rs := [14]) (by kernel_rfl) (by simp) ?_
      refine AllReadyH.cons rfl (fun K hK => ?_) AllReadyH.nil
      go_simp
      refine hK.out _ _ hr (fun _ => ?_)
      clear hK K
      refine wpAnyH_ready (rs := [15]) (by kernel_rfl) (by simp) ?_
      refine AllReadyH.cons rfl (fun K hK => ?_) AllReadyH.nil
      go_simp
      refine hK.out _ _ hr (fun _ => ?_)
      clear hK K
      refine wpAnyH_ready (rs := [16]) (by kernel_rfl) (by simp) ?_
      refine AllReadyH.cons rfl (fun K hK => ?_) AllReadyH.nil
      obtain ⟨x0, x1, x2⟩ := hs.st.c3
      have xf := hs.st.frozen 2
      have HS4 : Hid (Sg sb B l f (.slice a0 N cp) #[.int .i64 1, V fl, .string S, .int .i64 pk, V rg, V rs, V rl, V rp, V rt, V ri, V rc] w w4 ∧ OwnE w4 base (.slice a1 M c1) (xs.take i ++ ((S, ⟨pk, rg, rs, rl, rp⟩, Lev0) : Ent) :: xs.drop i)) := ⟨hs, o4⟩
      clear o4 t4
      go_simp
      have hne : B ≠ sb := fun e => by have h1 := HH.out.2.2.1; have h2 := HH.out.2.2.2.1; have h3 := HB.out; omega
      refine hK.out _ _ (hr.other hne 2 _) (fun _ => ?_)
      clear hK K
      refine wpAnyH_done (by kernel_rfl) ?_ _
      go_wp2
      go_ret
      have st := HS4.out.1.store (v' := .slice a1 M c1)
      exact ⟨rfl, _, st.1, HS4.out.2.kept ((Touch.refl _ _).setCell (S := [sb]) (.inl (by simp)) _ _) (fun k hk => by have := (HS4.out.2.ge k hk).1; have := HH.out.2.2.1; simp; omega), st.2⟩
    · skip
      go_simp
      refine hK.out _ _ hr (fun _ => ?_)
      clear hK K
      refine wpAnyH_ready (rs := [4, 12]) (by kernel_rfl) (by simp) ?_
      refine AllReadyH.cons rfl (fun K hK => ?_) (AllReadyH.cons rfl (fun K hK => ?_) AllReadyH.nil)
      · skip
        obtain ⟨s0, s1, s2⟩ := hs.st.c3
        go_simp
        refine hK.out _ _ hr (fun _ => ?_)
        clear hK K
        clear s0 s1 s2
        refine wpAnyH_ready (rs := [12]) (by kernel_rfl) (by simp) ?_
        refine AllReadyH.cons rfl (fun K hK => ?_) AllReadyH.nil
        go_simp
        have ua : Up w2 (w2.alloc (.cells #[.string S, .int .i64 pk, V rg, V rs, V rl, V rp, .int .u64 0, .int .u64 0, .int .u64 0] 58)) := Up.alloc _ _
        have hva : (w2.alloc (.cells #[.string S, .int .i64 pk, V rg, V rs, V rl, V rp, .int .u64 0, .int .u64 0, .int .u64 0] 58)).heap[w2.heap.size]? = some (.cells #[.string S, .int .i64 pk, V rg, V rs, V rl, V rp, .int .u64 0, .int .u64 0, .int .u64 0] 58 (0, 0)) := heap_alloc_new _ _
        have hsz : w.heap.size ≤ w2.heap.size := hU.size
        replace hU := hU.trans ua
        replace hs := hs.up ua
        replace hr := hr.up ua
        refine hK.out _ _ hr (fun _ => ?_)
        clear hK K ua
        generalize w2.alloc (.cells #[.string S, .int .i64 pk, V rg, V rs, V rl, V rp, .int .u64 0, .int .u64 0, .int .u64 0] 58) = w3 at *
        generalize w2.heap.size = vb at *
        refine wpAnyH_ready (rs := [13]) (by kernel_rfl) (by simp) ?_
        refine AllReadyH.cons rfl (fun K hK => ?_) AllReadyH.nil
        go_simp
        refine (HI.out vb w3 (HO.out.up hU) (Nat.le_trans HH.out.2.2.2.1 hU.size) hva (fun hm => by have := HH.out.2.2.2.2 vb hm; omega)).mono ?_
        rintro e w4 ⟨v', rfl, o4, t4⟩
        replace hs := hs.touch t4 HH.out.1 HH.out.2.1
        replace hr := Touch.box hr t4 HH.out.2.1
        obtain ⟨a1, M, c1, rfl⟩ : ∃ a1 M c1, v' = .slice a1 M c1 := by obtain ⟨a1, c1, e⟩ := o4.shape; exact ⟨_, _, _, e⟩
        refine hK.out _ _ hr (fun _ => ?_)
        clear hK K hU hva hsz
        refine wpAnyH_ready (rs := [14]) (by kernel_rfl) (by simp) ?_
        refine AllReadyH.cons rfl (fun K hK => ?_) AllReadyH.nil
        go_simp
        refine hK.out _ _ hr (fun _ => ?_)
        clear hK K
        refine wpAnyH_ready (rs := [15]) (by kernel_rfl) (by simp) ?_
        refine AllReadyH.cons rfl (fun K hK => ?_) AllReadyH.nil
        go_simp
        refine hK.out _ _ hr (fun _ => ?_)
        clear hK K
        refine wpAnyH_ready (rs := [16]) (by kernel_rfl) (by simp) ?_
        refine AllReadyH.cons rfl (fun K hK => ?_) AllReadyH.nil
        obtain ⟨x0, x1, x2⟩ := hs.st.c3
        have xf := hs.st.frozen 2
        have HS4 : Hid (Sg sb B l f (.slice a0 N cp) #[.int .i64 1, V fl, .string S, .int .i64 pk, V rg, V rs, V rl, V rp, V rt, V ri, V rc] w w4 ∧ OwnE w4 base (.slice a1 M c1) (xs.take i ++ ((S, ⟨pk, rg, rs, rl, rp⟩, Lev0) : Ent) :: xs.drop i)) := ⟨hs, o4⟩
        clear o4 t4
        go_simp
        have hne : B ≠ sb := fun e => by have h1 := HH.out.2.2.1; have h2 := HH.out.2.2.2.1; have h3 := HB.out; omega
        refine hK.out _ _ (hr.other hne 2 _) (fun _ => ?_)
        clear hK K
        refine wpAnyH_done (by kernel_rfl) ?_ _
        go_wp2
        go_ret
        have st := HS4.out.1.store (v' := .slice a1 M c1)
        exact ⟨rfl, _, st.1, HS4.out.2.kept ((Touch.refl _ _).setCell (S := [sb]) (.inl (by simp)) _ _) (fun k hk => by have := (HS4.out.2.ge k hk).1; have := HH.out.2.2.1; simp; omega), st.2⟩
      · skip
        go_simp
        have ua : Up w2 (w2.alloc (.cells #[.string S, .int .i64 pk, V rg, V rs, V rl, V rp, .int .u64 0, .int .u64 0, .int .u64 0] 58)) := Up.alloc _ _
        have hva : (w2.alloc (.cells #[.string S, .int .i64 pk, V rg, V rs, V rl, V rp, .int .u64 0, .int .u64 0, .int .u64 0] 58)).heap[w2.heap.size]? = some (.cells #[.string S, .int .i64 pk, V rg, V rs, V rl, V rp, .int .u64 0, .int .u64 0, .int .u64 0] 58 (0, 0)) := heap_alloc_new _ _
        have hsz : w.heap.size ≤ w2.heap.size := hU.size
        replace hU := hU.trans ua
        replace hs := hs.up ua
        replace hr := hr.up ua
        refine hK.out _ _ hr (fun _ => ?_)
        clear hK K ua
        generalize w2.alloc (.cells #[.string S, .int .i64 pk, V rg, V rs, V rl, V rp, .int .u64 0, .int .u64 0, .int .u64 0] 58) = w3 at *
        generalize w2.heap.size = vb at *
        refine wpAnyH_ready (rs := [4]) (by kernel_rfl) (by simp) ?_
        refine AllReadyH.cons rfl (fun K hK => ?_) AllReadyH.nil
        obtain ⟨s0, s1, s2⟩ := hs.st.c3
        go_simp
        refine hK.out _ _ hr (fun _ => ?_)
        clear hK K
        clear s0 s1 s2
        refine wpAnyH_ready (rs := [13]) (by kernel_rfl) (by simp) ?_
        refine AllReadyH.cons rfl (fun K hK => ?_) AllReadyH.nil
        go_simp
        refine (HI.out vb w3 (HO.out.up hU) (Nat.le_trans HH.out.2.2.2.1 hU.size) hva (fun hm => by have := HH.out.2.2.2.2 vb hm; omega)).mono ?_
        rintro e w4 ⟨v', rfl, o4, t4⟩
        replace hs := hs.touch t4 HH.out.1 HH.out.2.1
        replace hr := Touch.box hr t4 HH.out.2.1
        obtain ⟨a1, M, c1, rfl⟩ : ∃ a1 M c1, v' = .slice a1 M c1 := by obtain ⟨a1, c1, e⟩ := o4.shape; exact ⟨_, _, _, e⟩
        refine hK.out _ _ hr (fun _ => ?_)
        clear hK K hU hva hsz
        refine wpAnyH_ready (rs := [14]) (by kernel_rfl) (by simp) ?_
        refine AllReadyH.cons rfl (fun K hK => ?_) AllReadyH.nil
        go_simp
        refine hK.out _ _ hr (fun _ => ?_)
        clear hK K
        refine wpAnyH_ready (rs := [15]) (by kernel_rfl) (by simp) ?_
        refine AllReadyH.cons rfl (fun K hK => ?_) AllReadyH.nil
        go_simp
        refine hK.out _ _ hr (fun _ => ?_)
        clear hK K
        refine wpAnyH_ready (rs := [16]) (by kernel_rfl) (by simp) ?_
        refine AllReadyH.cons rfl (fun K hK => ?_) AllReadyH.nil
        obtain ⟨x0, x1, x2⟩ := hs.st.c3
        have xf := hs.st.frozen 2
        have HS4 : Hid (Sg sb B l f (.slice a0 N cp) #[.int .i64 1, V fl, .string S, .int .i64 pk, V rg, V rs, V rl, V rp, V rt, V ri, V rc] w w4 ∧ OwnE w4 base (.slice a1 M c1) (xs.take i ++ ((S, ⟨pk, rg, rs, rl, rp⟩, Lev0) : Ent) :: xs.drop i)) := ⟨hs, o4⟩
        clear o4 t4
        go_simp
        have hne : B ≠ sb := fun e => by have h1 := HH.out.2.2.1; have h2 := HH.out.2.2.2.1; have h3 := HB.out; omega
        refine hK.out _ _ (hr.other hne 2 _) (fun _ => ?_)
        clear hK K
        refine wpAnyH_done (by kernel_rfl) ?_ _
        go_wp2
        go_ret
        have st := HS4.out.1.store (v' := .slice a1 M c1)
        exact ⟨rfl, _, st.1, HS4.out.2.kept ((Touch.refl _ _).setCell (S := [sb]) (.inl (by simp)) _ _) (fun k hk => by have := (HS4.out.2.ge k hk).1; have := HH.out.2.2.1; simp; omega), st.2⟩
end Go.Proofs.YtdddfapelencoaaDoor
