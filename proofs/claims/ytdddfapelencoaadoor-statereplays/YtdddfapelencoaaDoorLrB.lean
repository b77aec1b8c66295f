/- Merged: StRfD, StRfE. -/
import Derived.Test.YtdddfapelencoaaDoorStRf0
set_option linter.unusedVariables false
set_option linter.unusedSimpArgs false
namespace Go.Proofs.YtdddfapelencoaaDoor
open Go Go.RowKit

/-- Inserting by shifting up. -/
theorem ins_read (xs : List Ent) (m : Nat) (z : Ent) (h : m < xs.length) : (xs.take (m + 1) ++ z :: xs.drop (m + 1))[m]? = xs[m]? := by
  rw [List.getElem?_append_left (by rw [List.length_take]; omega), List.getElem?_take, if_pos (by omega)]
theorem ins_shift (xs : List Ent) (m : Nat) (z y : Ent) (h : m < xs.length) (hy : xs[m]? = some y) : (xs.take (m + 1) ++ z :: xs.drop (m + 1)).set (m + 1) y = xs.take m ++ y :: xs.drop m := by
  have hl : (xs.take (m + 1)).length = m + 1 := by rw [List.length_take]; omega
  have hy2 : xs[m] = y := Option.some.inj ((List.getElem?_eq_getElem h).symm.trans hy)
  rw [List.set_append_right _ _ (by omega), hl, Nat.sub_self, List.set_cons_zero, List.take_add_one, hy, List.drop_eq_getElem_cons h, hy2]
  simp
theorem ins_next (xs : List Ent) (m : Nat) (y : Ent) (h : m < xs.length) : (xs.take m ++ y :: xs.drop m)[m]? = some y := by
  have hl : (xs.take m).length = m := by rw [List.length_take]; omega
  rw [List.getElem?_append_right (by omega), hl, Nat.sub_self]
  rfl
theorem ins_len (xs : List Ent) (m : Nat) (y : Ent) (h : m ≤ xs.length) : (xs.take m ++ y :: xs.drop m).length = xs.length + 1 := by
  simp only [List.length_append, List.length_take, List.length_cons, List.length_drop]; omega
theorem ins_put (xs : List Ent) (m : Nat) (z y : Ent) (h : m ≤ xs.length) : (xs.take m ++ z :: xs.drop m).set m y = xs.take m ++ y :: xs.drop m := by
  have hl : (xs.take m).length = m := by rw [List.length_take]; omega
  rw [List.set_append_right _ _ (by omega), hl, Nat.sub_self, List.set_cons_zero]
theorem ins_start (xs : List Ent) (z : Ent) : xs.take xs.length ++ z :: xs.drop xs.length = xs ++ [z] := by simp
abbrev ent0 : Ent := (⟨#[]⟩, ⟨0, 0, 0, 0, 0⟩, ⟨0, 0, 0⟩)

set_option maxRecDepth 20000 in
set_option maxHeartbeats 6400000 in
theorem rstep_def (sb l f n N cp i : Nat) (a0 : Option Addr) (fl : Nat) (S : ByteArray) (pk : Int) (rg rs rl rp rt ri rc : Nat) (w : World) (hb : Box w sb #[V l, V f, .slice a0 N cp])
    (hV : ∀ u, Calls Tryd.prog 38 #[.agg #[.int .i64 1, V fl, .string S, .int .i64 pk, V rg, V rs, V rl, V rp, V rt, V ri, V rc]] u fun e w' => e = .returned (.bool true) ∧ Up u w') (hlt : l < 4611686018427387904) (hne : n = l + 1) (hi : i ≤ N) (hN : N ≤ 4096) (hF : ∀ u, Up w u → Calls Tryd.prog 10 #[.agg #[V l, V f, .slice a0 N cp], .string S] u fun e w' => e = .returned (.tuple #[.int .i64 (i : Int), .bool false]) ∧ Up u w') (base : Nat) (xs : List Ent) (ho : OwnE w base (.slice a0 N cp) xs) (hlen : xs.length = N) (hf : N < 4096) (hbase : base ≤ w.heap.size) :
    Calls Tryd.prog 31 #[.pointer (some ⟨sb, 0, none⟩), V n, .agg #[.int .i64 1, V fl, .string S, .int .i64 pk, V rg, V rs, V rl, V rp, V rt, V ri, V rc]] w fun e w' => e = .returned (.int .i64 0) ∧ ∃ v', Box w' sb #[V n, V (max f fl), v'] ∧ OwnE w' base v' (xs.take i ++ (S, ⟨pk, rg, rs, rl, rp⟩, Lev0) :: xs.drop i) ∧ Touch w w' (Rb sb base w.heap.size) := by
  have HO : Hid (OwnE w base (.slice a0 N cp) xs ∧ xs.length = N ∧ i ≤ N ∧ True ∧ base ≤ w.heap.size ∧ sb < w.heap.size) := ⟨ho, hlen, hi, trivial, hbase, hb.lt⟩
  have hf1 : ¬ (4096 : Int) ≤ (N : Int) := by omega
  have hf2 : decide ((4096 : Int) ≤ (N : Int)) = false := decide_eq_false hf1
  clear ho hlen hf hbase
  have e1 : IntKind.u64.wrap ((l : Int) + 1) = (l : Int) + 1 := by rw [IntKind.wrap_u64]; omega
  have hq3 : ¬ (4611686018427387904 : Int) ≤ (l : Int) := by omega
  have hq4 : decide ((4611686018427387904 : Int) ≤ (l : Int)) = false := decide_eq_false hq3
  have hq2 : ((n : Int) != (l : Int) + 1) = false := by rw [hne]; simp
  have HF : Hid (∀ u, Up w u → Calls Tryd.prog 10 #[.agg #[V l, V f, .slice a0 N cp], .string S] u fun e w' => e = .returned (.tuple #[.int .i64 (i : Int), .bool false]) ∧ Up u w') := hF
  have hN1 : (N : Int) ≤ 4096 := by omega
  have hi1 : (i : Int) ≤ (N : Int) := by omega
  have HNE : Hid (n = l + 1) := hne
  clear hlt hne hF
  have HV : Hid (∀ u, Calls Tryd.prog 38 #[.agg #[.int .i64 1, V fl, .string S, .int .i64 pk, V rg, V rs, V rl, V rp, V rt, V ri, V rc]] u fun e w' => e = .returned (.bool true) ∧ Up u w') := hV
  have b0 : Box (w.alloc (.cells #[.int .i64 1, V fl, .string S, .int .i64 pk, V rg, V rs, V rl, V rp, V rt, V ri, V rc] 39)) w.heap.size #[.int .i64 1, V fl, .string S, .int .i64 pk, V rg, V rs, V rl, V rp, V rt, V ri, V rc] := Box.new _ _ _
  have u0 : Up w (w.alloc (.cells #[.int .i64 1, V fl, .string S, .int .i64 pk, V rg, V rs, V rl, V rp, V rt, V ri, V rc] 39)) := Up.alloc _ _
  have b1 := hb.up u0
  obtain ⟨B, hB⟩ : ∃ B, w.heap.size = B := ⟨_, rfl⟩
  have HB : Hid (w.heap.size = B) := hB
  rw [hB] at b0
  clear hV hb
  go_enter Tryd.func31, Tryd.ntmps31
  go_upto_region 1 with fail
  clear hB
  generalize w.alloc (.cells #[.int .i64 1, V fl, .string S, .int .i64 pk, V rg, V rs, V rl, V rp, V rt, V ri, V rc] 39) = w0 at *
  obtain ⟨r0, r1, r2, r3, r4, r5, r6, r7, r8, r9, r10⟩ := b0.c11
  go_wp2_with fail
  refine (HV.out _).mono ?_
  rintro e w1 ⟨rfl, u1⟩
  have hU := u0.trans u1
  replace b0 := b0.up u1
  replace b1 := b1.up u1
  clear r0 r1 r2 r3 r4 r5 r6 r7 r8 r9 r10 u0 u1 HV
  obtain ⟨r0, r1, r2, r3, r4, r5, r6, r7, r8, r9, r10⟩ := b0.c11
  obtain ⟨s0, s1, s2⟩ := b1.c3
  go_upto_region 5 with fail
  clear r0 r1 r2 r3 r4 r5 r6 r7 r8 r9 r10 s0 s1 s2 hq2 hq3 hq4 e1
  replace hU := hU.trans (Up.drew w1)
  have hs : Sg sb B l f (.slice a0 N cp) #[.int .i64 1, V fl, .string S, .int .i64 pk, V rg, V rs, V rl, V rp, V rt, V ri, V rc] w w1.drew := ⟨b1.up (Up.drew w1), b0.up (Up.drew w1), Touch.of_up hU _⟩
  clear b0 b1
  refine wp_region_held_drew (S := Sg sb B l f (.slice a0 N cp) #[.int .i64 1, V fl, .string S, .int .i64 pk, V rg, V rs, V rl, V rp, V rt, V ri, V rc] w) (by kernel_rfl) hs (fun hs0 => ?_)
  clear hs0
  generalize w1.drew = wd at *
  refine take_to (some 29) (i := 0) (v := .pointer (some ⟨sb, 0, none⟩)) rfl rfl (by kernel_rfl) (by kernel_rfl) (by kernel_rfl) (fun _ _ _ h => h) (Or.inl ⟨by kernel_rfl, by intro u hSu; go_simp⟩) hs ?_
  simp only [Act.put, List.setIfInBounds_toArray, List.set_cons_zero, List.set_cons_succ]
  refine take_to (some 30) (i := 1) (v := .pointer (some ⟨sb, 0, none⟩)) rfl rfl (by kernel_rfl) (by kernel_rfl) (by kernel_rfl) (fun _ _ _ h => h) (Or.inl ⟨by kernel_rfl, by intro u hSu; go_simp⟩) hs ?_
  simp only [Act.put, List.setIfInBounds_toArray, List.set_cons_zero, List.set_cons_succ]
  refine take_to (some 31) (i := 2) (v := .agg #[V l, V f, .slice a0 N cp]) rfl rfl (by kernel_rfl) (by kernel_rfl) (by kernel_rfl) (fun _ _ _ h => h) (Or.inl ⟨by kernel_rfl, by intro u hSu; obtain ⟨s0, s1, s2⟩ := hSu.st.c3; go_simp⟩) hs ?_
  simp only [Act.put, List.setIfInBounds_toArray, List.set_cons_zero, List.set_cons_succ]
  refine take_to (some 32) (i := 3) (v := .pointer (some ⟨B, 2, none⟩)) rfl rfl (by kernel_rfl) (by kernel_rfl) (by kernel_rfl) (fun _ _ _ h => h) (Or.inl ⟨by kernel_rfl, by intro u hSu; go_simp⟩) hs ?_
  simp only [Act.put, List.setIfInBounds_toArray, List.set_cons_zero, List.set_cons_succ]
  refine take_to (some 33) (i := 4) (v := .string S) rfl rfl (by kernel_rfl) (by kernel_rfl) (by kernel_rfl) (fun _ _ _ h => h) (Or.inl ⟨by kernel_rfl, by intro u hSu; obtain ⟨r0, r1, r2, r3, r4, r5, r6, r7, r8, r9, r10⟩ := hSu.rc.c11; go_simp⟩) hs ?_
  simp only [Act.put, List.setIfInBounds_toArray, List.set_cons_zero, List.set_cons_succ]
  refine wpAnyH_ready (rs := [5]) (by kernel_rfl) (by simp) ?_
  refine AllReadyH.cons rfl (fun K hK => ?_) AllReadyH.nil
  go_simp
  refine (HF.out _ hU).mono ?_
  rintro e w2 ⟨rfl, u1⟩
  replace hU := hU.trans u1
  replace hs := hs.up u1
  refine hK.out _ _ hs (fun _ => ?_)
  clear hK K
  refine take_to (some 28) (i := 6) (v := .tuple #[.int .i64 (i : Int), .bool false]) rfl rfl (by kernel_rfl) (by kernel_rfl) (by kernel_rfl) (fun _ _ _ h => h) (Or.inl ⟨by kernel_rfl, by intro u hSu; go_simp⟩) hs ?_
  simp only [Act.put, List.setIfInBounds_toArray, List.set_cons_zero, List.set_cons_succ]
  refine take_to (some 35) (i := 7) (v := .int .i64 (i : Int)) rfl rfl (by kernel_rfl) (by kernel_rfl) (by kernel_rfl) (fun _ _ _ h => h) (Or.inl ⟨by kernel_rfl, by intro u hSu; go_simp⟩) hs ?_
  simp only [Act.put, List.setIfInBounds_toArray, List.set_cons_zero, List.set_cons_succ]
  refine take_to (some 36) (i := 8) (v := .bool false) rfl rfl (by kernel_rfl) (by kernel_rfl) (by kernel_rfl) (fun _ _ _ h => h) (Or.inl ⟨by kernel_rfl, by intro u hSu; go_simp⟩) hs ?_
  simp only [Act.put, List.setIfInBounds_toArray, List.set_cons_zero, List.set_cons_succ]
  refine take_to (some 7) (i := 9) (v := .int .i64 (i : Int)) rfl rfl (by kernel_rfl) (by kernel_rfl) (by kernel_rfl) (fun _ _ _ h => h) (Or.inl ⟨by kernel_rfl, by intro u hSu; go_simp⟩) hs ?_
  simp only [Act.put, List.setIfInBounds_toArray, List.set_cons_zero, List.set_cons_succ]
  refine take_to (some 8) (i := 10) (v := .bool false) rfl rfl (by kernel_rfl) (by kernel_rfl) (by kernel_rfl) (fun _ _ _ h => h) (Or.inl ⟨by kernel_rfl, by intro u hSu; go_simp⟩) hs ?_
  simp only [Act.put, List.setIfInBounds_toArray, List.set_cons_zero, List.set_cons_succ]
  refine wpAnyH_done (by kernel_rfl) ?_ _
  clear HF
  obtain ⟨r0, r1, r2, r3, r4, r5, r6, r7, r8, r9, r10⟩ := hs.rc.c11
  obtain ⟨s0, s1, s2⟩ := hs.st.c3
  have hX0 : Fn sb B base l f (.slice a0 N cp) #[.int .i64 1, V fl, .string S, .int .i64 pk, V rg, V rs, V rl, V rp, V rt, V ri, V rc] xs w w2 := ⟨hs.st, hs.rc, HO.out.1.up hU, hs.tt.mono (fun k hk => mem_Rb (.inr (HO.out.1.ge k hk).1)), by have := HB.out; have := HO.out.2.2.2.2.2; omega, rfl⟩
  have nb : Box (w2.alloc (.cells (EC ent0).toArray 58)) w2.heap.size (EC ent0).toArray := Box.new _ _ _
  have ua : Up w2 (w2.alloc (.cells (EC ent0).toArray 58)) := Up.alloc _ _
  have hX1 := hX0.up ua
  have hsz : base ≤ (w2.alloc (.cells (EC ent0).toArray 58)).heap.size := Nat.le_trans HO.out.2.2.2.2.1 (hU.trans ua).size
  clear hs hU hX0
  go_wp2_with (at_builtin; refine wpList_pushR _ rfl (.tmp 101) (.tmp 103) rfl base w2.heap.size _ xs ent0 rfl rfl hX1.own nb hsz (by have := HO.out.2.1; omega) ?_)
  intro v9 w9 o9 g9
  obtain ⟨b9, T9⟩ := hX1.grow g9 o9
  clear s0 s1 s2 r0 r1 r2 r3 r4 r5 r6 r7 r8 r9 r10 hX1 nb ua hsz g9
  obtain ⟨g, c9, rfl, _, _⟩ := ownE_some o9 (by simp)
  obtain ⟨s0, s1, s2⟩ := b9.c3
  have f2 := b9.frozen 2
  have hM0 : (xs ++ [ent0]).length = N + 1 := by rw [List.length_append]; have := HO.out.2.1; simp; omega
  obtain ⟨M, hM⟩ : ∃ M, (xs ++ [ent0]).length = M := ⟨_, rfl⟩
  rw [hM] at T9 o9 hM0 ⊢
  clear hM
  have HM : Hid (M = N + 1) := hM0
  have hM1 : IntKind.i64.wrap ((M : Int) - 1) = (N : Int) := by have := IntKind.wrap_i64 ((M : Int) - 1); omega
  clear hM0 o9
  go_upto_region 14 with fail
  clear s0 s1 s2 f2 b9
  generalize World.setCell w9 ⟨sb, 2, none⟩ (.slice (some ⟨g, 0, none⟩) M c9) = wx at *
  have HX : Hid (Fn sb B base l f (.slice (some ⟨g, 0, none⟩) M c9) #[.int .i64 1, V fl, .string S, .int .i64 pk, V rg, V rs, V rl, V rp, V rt, V ri, V rc] (xs ++ [ent0]) w wx) := T9
  obtain ⟨s0, s1, s2⟩ := T9.st.c3
  clear T9
  go_wp2
  clear s0 s1 s2 hM1
  go_loopg [9] (N - i) (fun g8 x wr => ∃ j : Nat, i ≤ j ∧ j ≤ N ∧ g8 = j - i ∧ x = .int .i64 j ∧ Hid (∃ z, Fn sb B base l f (.slice (some ⟨g, 0, none⟩) M c9) #[.int .i64 1, V fl, .string S, .int .i64 pk, V rg, V rs, V rl, V rp, V rt, V ri, V rc] (xs.take j ++ z :: xs.drop j) w wr))
  case atStart => exact ⟨N, HO.out.2.2.1, Nat.le_refl _, rfl, rfl, ent0, by have h1 := HX.out; have h2 := HO.out.2.1; rw [← ins_start, h2] at h1; exact h1⟩
  case round =>
    clear HX
    obtain ⟨j, hij, hjN, rfl, rfl, HF0⟩ := hrel
    obtain ⟨z, hF⟩ := HF0.out
    by_cases hlt : i < j
    · obtain ⟨m, rfl⟩ : ∃ m, j = m + 1 := ⟨j - 1, by omega⟩
      have hlt' : (i : Int) < (m : Int) + 1 := by omega
      have hlt2 : (i : Int) < ((m + 1 : Nat) : Int) := by omega
      have hmM : (m : Int) < (M : Int) := by have := HM.out; omega
      have hmM2 : (m : Int) + 1 < (M : Int) := by have := HM.out; omega
      have e1 : IntKind.i64.wrap (m : Int) = (m : Int) := by have := IntKind.wrap_i64 (m : Int); have := HM.out; omega
      have hj0 : ¬ ((m : Int) + 1 < 0) := by omega
      have HJ : Hid (i ≤ m ∧ m < N ∧ m < xs.length) := ⟨by omega, by omega, by have := HO.out.2.1; omega⟩
      go_upto_region 17 with fail
      have hX := hF.up (Up.drew wr)
      clear HF0 hF
      have hrl := ins_len xs (m + 1) z (by have := HJ.out.2.2; omega)
      have hat := hX.own.here m (by rw [hrl]; have := HJ.out.2.2; omega)
      have hat0 := hX.own.here (m + 1) (by rw [hrl]; have := HJ.out.2.2; omega)
      have hrd := ins_read xs m z HJ.out.2.2
      rw [List.getElem?_eq_getElem (by rw [hrl]; have := HJ.out.2.2; omega)] at hrd
      obtain ⟨y, hy⟩ : ∃ y, (xs.take (m + 1) ++ z :: xs.drop (m + 1))[m]'(by rw [hrl]; have := HJ.out.2.2; omega) = y := ⟨_, rfl⟩
      rw [hy] at hat hrd
      have HY : Hid (xs[m]? = some y ∧ (xs.take (m + 1) ++ z :: xs.drop (m + 1)).length = xs.length + 1) := ⟨hrd.symm, hrl⟩
      generalize (xs.take (m + 1) ++ z :: xs.drop (m + 1))[m + 1]'(by rw [hrl]; have := HJ.out.2.2; omega) = z2 at hat0
      clear hy hrd hrl hij hjN hlt
      obtain ⟨yk, ⟨y0, y1, y2, y3, y4⟩, y5, y6, y7⟩ := y
      have hr : (fun u => Box u sb #[V l, V f, .slice (some ⟨g, 0, none⟩) M c9] ∧ EntAt u g (m * 9) (yk, ⟨y0, y1, y2, y3, y4⟩, ⟨y5, y6, y7⟩)) wr.drew := ⟨hX.st, hat⟩
      refine wp_region_held_drew (S := fun u => Box u sb #[V l, V f, .slice (some ⟨g, 0, none⟩) M c9] ∧ EntAt u g (m * 9) (yk, ⟨y0, y1, y2, y3, y4⟩, ⟨y5, y6, y7⟩)) (by kernel_rfl) hr (fun hs0 => ?_)
      clear hs0
      generalize wr.drew = wd at *
      refine take_to (some 118) (i := 0) (v := .pointer (some ⟨sb, 0, none⟩)) rfl rfl (by kernel_rfl) (by kernel_rfl) (by kernel_rfl) (fun _ _ _ h => h) (Or.inl ⟨by kernel_rfl, by intro u hSu; go_simp⟩) hr ?_
      simp only [Act.put, List.setIfInBounds_toArray, List.set_cons_zero, List.set_cons_succ]
      refine take_to (some 119) (i := 1) (v := .pointer (some ⟨sb, 0, none⟩)) rfl rfl (by kernel_rfl) (by kernel_rfl) (by kernel_rfl) (fun _ _ _ h => h) (Or.inl ⟨by kernel_rfl, by intro u hSu; go_simp⟩) hr ?_
      simp only [Act.put, List.setIfInBounds_toArray, List.set_cons_zero, List.set_cons_succ]
      refine take_to (some 120) (i := 2) (v := .pointer (some ⟨sb, 2, none⟩)) rfl rfl (by kernel_rfl) (by kernel_rfl) (by kernel_rfl) (fun _ _ _ h => h) (Or.inl ⟨by kernel_rfl, by intro u hSu; go_simp⟩) hr ?_
      simp only [Act.put, List.setIfInBounds_toArray, List.set_cons_zero, List.set_cons_succ]
      refine take_to (some 121) (i := 3) (v := .slice (some ⟨g, 0, none⟩) M c9) rfl rfl (by kernel_rfl) (by kernel_rfl) (by kernel_rfl) (fun _ _ _ h => h) (Or.inl ⟨by kernel_rfl, by intro u hSu; obtain ⟨⟨s0, s1, s2⟩, _⟩ := (⟨hSu.1.c3, hSu.2⟩ : (_ ∧ _ ∧ _) ∧ _); go_simp⟩) hr ?_
      simp only [Act.put, List.setIfInBounds_toArray, List.set_cons_zero, List.set_cons_succ]
      refine take_to (some 122) (i := 4) (v := .int .i64 ((m + 1 : Nat) : Int)) rfl rfl (by kernel_rfl) (by kernel_rfl) (by kernel_rfl) (fun _ _ _ h => h) (Or.inl ⟨by kernel_rfl, by intro u hSu; go_simp⟩) hr ?_
      simp only [Act.put, List.setIfInBounds_toArray, List.set_cons_zero, List.set_cons_succ]
      refine take_to (some 123) (i := 5) (v := .pointer (some ⟨sb, 0, none⟩)) rfl rfl (by kernel_rfl) (by kernel_rfl) (by kernel_rfl) (fun _ _ _ h => h) (Or.inl ⟨by kernel_rfl, by intro u hSu; go_simp⟩) hr ?_
      simp only [Act.put, List.setIfInBounds_toArray, List.set_cons_zero, List.set_cons_succ]
      refine take_to (some 124) (i := 6) (v := .pointer (some ⟨sb, 0, none⟩)) rfl rfl (by kernel_rfl) (by kernel_rfl) (by kernel_rfl) (fun _ _ _ h => h) (Or.inl ⟨by kernel_rfl, by intro u hSu; go_simp⟩) hr ?_
      simp only [Act.put, List.setIfInBounds_toArray, List.set_cons_zero, List.set_cons_succ]
      refine take_to (some 125) (i := 7) (v := .pointer (some ⟨sb, 2, none⟩)) rfl rfl (by kernel_rfl) (by kernel_rfl) (by kernel_rfl) (fun _ _ _ h => h) (Or.inl ⟨by kernel_rfl, by intro u hSu; go_simp⟩) hr ?_
      simp only [Act.put, List.setIfInBounds_toArray, List.set_cons_zero, List.set_cons_succ]
      refine take_to (some 126) (i := 8) (v := .slice (some ⟨g, 0, none⟩) M c9) rfl rfl (by kernel_rfl) (by kernel_rfl) (by kernel_rfl) (fun _ _ _ h => h) (Or.inl ⟨by kernel_rfl, by intro u hSu; obtain ⟨⟨s0, s1, s2⟩, _⟩ := (⟨hSu.1.c3, hSu.2⟩ : (_ ∧ _ ∧ _) ∧ _); go_simp⟩) hr ?_
      simp only [Act.put, List.setIfInBounds_toArray, List.set_cons_zero, List.set_cons_succ]
      refine take_to (some 127) (i := 9) (v := .int .i64 ((m + 1 : Nat) : Int)) rfl rfl (by kernel_rfl) (by kernel_rfl) (by kernel_rfl) (fun _ _ _ h => h) (Or.inl ⟨by kernel_rfl, by intro u hSu; go_simp⟩) hr ?_
      simp only [Act.put, List.setIfInBounds_toArray, List.set_cons_zero, List.set_cons_succ]
      refine take_to (some 128) (i := 10) (v := .int .i64 (m : Int)) rfl rfl (by kernel_rfl) (by kernel_rfl) (by kernel_rfl) (fun _ _ _ h => h) (Or.inl ⟨by kernel_rfl, by intro u hSu; go_simp⟩) hr ?_
      simp only [Act.put, List.setIfInBounds_toArray, List.set_cons_zero, List.set_cons_succ]
      refine take_to (some 129) (i := 11) (v := .pointer (some ⟨g, m * 9, none⟩)) rfl rfl (by kernel_rfl) (by kernel_rfl) (by kernel_rfl) (fun _ _ _ h => h) (Or.inl ⟨by kernel_rfl, by intro u hSu; go_simp⟩) hr ?_
      simp only [Act.put, List.setIfInBounds_toArray, List.set_cons_zero, List.set_cons_succ]
      refine take_to (some 130) (i := 12) (v := .agg #[.string yk, .int .i64 y0, V y1, V y2, V y3, V y4, V y5, V y6, V y7]) rfl rfl (by kernel_rfl) (by kernel_rfl) (by kernel_rfl) (fun _ _ _ h => h) (Or.inl ⟨by kernel_rfl, by intro u hSu; obtain ⟨d0, d1, d2, d3, d4, d5, d6, d7, d8⟩ := hSu.2; go_simp⟩) hr ?_
      simp only [Act.put, List.setIfInBounds_toArray, List.set_cons_zero, List.set_cons_succ]
      refine take_to (some 131) (i := 13) (v := .pointer (some ⟨g, (m + 1) * 9, none⟩)) rfl rfl (by kernel_rfl) (by kernel_rfl) (by kernel_rfl) (fun _ _ _ h => h) (Or.inl ⟨by kernel_rfl, by intro u hSu; go_simp⟩) hr ?_
      simp only [Act.put, List.setIfInBounds_toArray, List.set_cons_zero, List.set_cons_succ]
      refine wpAnyH_ready (rs := [14]) (by kernel_rfl) (by simp) ?_
      refine AllReadyH.cons rfl (fun K hK => ?_) AllReadyH.nil
      obtain ⟨d0, d1, d2, d3, d4, d5, d6, d7, d8⟩ := hat0
      have gf : ∀ t, wd.frozen? ⟨g, t, none⟩ = false := fun t => hX.own.frozen
      go_simp
      have hX2 := hX.put (m + 1) (by have := HY.out.2; have := HJ.out.2.2; omega) (yk, ⟨y0, y1, y2, y3, y4⟩, ⟨y5, y6, y7⟩)
      rw [ins_shift xs m z (yk, ⟨y0, y1, y2, y3, y4⟩, ⟨y5, y6, y7⟩) HJ.out.2.2 HY.out.1] at hX2
      have hat2 := hX2.own.here m (by rw [ins_len xs m _ (by have := HJ.out.2.2; omega)]; have := HJ.out.2.2; omega)
      have hsame : (xs.take m ++ (yk, ⟨y0, y1, y2, y3, y4⟩, ⟨y5, y6, y7⟩) :: xs.drop m)[m]'(by rw [ins_len xs m _ (by have := HJ.out.2.2; omega)]; have := HJ.out.2.2; omega) = (yk, ⟨y0, y1, y2, y3, y4⟩, ⟨y5, y6, y7⟩) := by
        have h1 := ins_next xs m (yk, ⟨y0, y1, y2, y3, y4⟩, ⟨y5, y6, y7⟩) HJ.out.2.2
        rw [List.getElem?_eq_getElem (by rw [ins_len xs m _ (by have := HJ.out.2.2; omega)]; have := HJ.out.2.2; omega)] at h1
        exact Option.some.inj h1
      rw [hsame] at hat2
      obtain ⟨wz, hwz⟩ : ∃ wz, wd.setCells g ((m + 1) * 9) (EC (yk, ⟨y0, y1, y2, y3, y4⟩, ⟨y5, y6, y7⟩)) = wz := ⟨_, rfl⟩
      rw [hwz] at hX2
      rw [hwz] at hat2
      generalize hq : World.setCell _ _ _ = wq
      obtain rfl : wq = wz := hq.symm.trans hwz
      refine hK.out _ _ ⟨hX2.st, hat2⟩ (fun _ => ?_)
      clear hK K hq hwz d0 d1 d2 d3 d4 d5 d6 d7 d8 gf hX hat2 hsame hat hr
      have HF2 : Hid (∃ z, Fn sb B base l f (.slice (some ⟨g, 0, none⟩) M c9) #[.int .i64 1, V fl, .string S, .int .i64 pk, V rg, V rs, V rl, V rp, V rt, V ri, V rc] (xs.take m ++ z :: xs.drop m) w wq) := ⟨_, hX2⟩
      clear hX2
      refine wpAnyH_done (by kernel_rfl) ?_ _
      go_wp2
      go_roundg (m - i)
      case measure => have := HJ.out.1; omega
      case rel => exact ⟨m, HJ.out.1, by have := HJ.out.2.1; omega, rfl, by go_num, HF2⟩
    · obtain rfl : i = j := by omega
      have hlt' : ¬ (i : Int) < (i : Int) := by omega
      have hiM : (i : Int) < (M : Int) := by have := HM.out; omega
      have HI : Hid (i ≤ xs.length) := by have := HO.out.2.1; show _ ≤ _; omega
      go_upto_region 18 with fail
      have hX := hF.up (Up.drew wr)
      clear HF0 hF hij hjN hlt hlt'
      have hat0 := hX.own.here i (by rw [ins_len xs i z HI.out]; have := HI.out; omega)
      generalize (xs.take i ++ z :: xs.drop i)[i]'(by rw [ins_len xs i z HI.out]; have := HI.out; omega) = z2 at hat0
      have hr : (fun u => Box u sb #[V l, V f, .slice (some ⟨g, 0, none⟩) M c9] ∧ Box u B #[.int .i64 1, V fl, .string S, .int .i64 pk, V rg, V rs, V rl, V rp, V rt, V ri, V rc]) wr.drew := ⟨hX.st, hX.rc⟩
      refine wp_region_held_drew (S := fun u => Box u sb #[V l, V f, .slice (some ⟨g, 0, none⟩) M c9] ∧ Box u B #[.int .i64 1, V fl, .string S, .int .i64 pk, V rg, V rs, V rl, V rp, V rt, V ri, V rc]) (by kernel_rfl) hr (fun hs0 => ?_)
      clear hs0
      generalize wr.drew = wd at *
      refine take_to (some 132) (i := 0) (v := .pointer (some ⟨sb, 0, none⟩)) rfl rfl (by kernel_rfl) (by kernel_rfl) (by kernel_rfl) (fun _ _ _ h => h) (Or.inl ⟨by kernel_rfl, by intro u hSu; go_simp⟩) hr ?_
      simp only [Act.put, List.setIfInBounds_toArray, List.set_cons_zero, List.set_cons_succ]
      refine take_to (some 133) (i := 1) (v := .pointer (some ⟨sb, 0, none⟩)) rfl rfl (by kernel_rfl) (by kernel_rfl) (by kernel_rfl) (fun _ _ _ h => h) (Or.inl ⟨by kernel_rfl, by intro u hSu; go_simp⟩) hr ?_
      simp only [Act.put, List.setIfInBounds_toArray, List.set_cons_zero, List.set_cons_succ]
      refine take_to (some 134) (i := 2) (v := .pointer (some ⟨sb, 2, none⟩)) rfl rfl (by kernel_rfl) (by kernel_rfl) (by kernel_rfl) (fun _ _ _ h => h) (Or.inl ⟨by kernel_rfl, by intro u hSu; go_simp⟩) hr ?_
      simp only [Act.put, List.setIfInBounds_toArray, List.set_cons_zero, List.set_cons_succ]
      refine take_to (some 135) (i := 3) (v := .slice (some ⟨g, 0, none⟩) M c9) rfl rfl (by kernel_rfl) (by kernel_rfl) (by kernel_rfl) (fun _ _ _ h => h) (Or.inl ⟨by kernel_rfl, by intro u hSu; obtain ⟨s0, s1, s2⟩ := hSu.1.c3; go_simp⟩) hr ?_
      simp only [Act.put, List.setIfInBounds_toArray, List.set_cons_zero, List.set_cons_succ]
      refine take_to (some 136) (i := 4) (v := .int .i64 (i : Int)) rfl rfl (by kernel_rfl) (by kernel_rfl) (by kernel_rfl) (fun _ _ _ h => h) (Or.inl ⟨by kernel_rfl, by intro u hSu; go_simp⟩) hr ?_
      simp only [Act.put, List.setIfInBounds_toArray, List.set_cons_zero, List.set_cons_succ]
      refine take_to (some 137) (i := 5) (v := .pointer (some ⟨B, 2, none⟩)) rfl rfl (by kernel_rfl) (by kernel_rfl) (by kernel_rfl) (fun _ _ _ h => h) (Or.inl ⟨by kernel_rfl, by intro u hSu; go_simp⟩) hr ?_
      simp only [Act.put, List.setIfInBounds_toArray, List.set_cons_zero, List.set_cons_succ]
      refine take_to (some 138) (i := 6) (v := .string S) rfl rfl (by kernel_rfl) (by kernel_rfl) (by kernel_rfl) (fun _ _ _ h => h) (Or.inl ⟨by kernel_rfl, by intro u hSu; obtain ⟨r0, r1, r2, r3, r4, r5, r6, r7, r8, r9, r10⟩ := hSu.2.c11; go_simp⟩) hr ?_
      simp only [Act.put, List.setIfInBounds_toArray, List.set_cons_zero, List.set_cons_succ]
      refine take_to (some 139) (i := 7) (v := .pointer (some ⟨B, 3, none⟩)) rfl rfl (by kernel_rfl) (by kernel_rfl) (by kernel_rfl) (fun _ _ _ h => h) (Or.inl ⟨by kernel_rfl, by intro u hSu; go_simp⟩) hr ?_
      simp only [Act.put, List.setIfInBounds_toArray, List.set_cons_zero, List.set_cons_succ]
      refine take_to (some 140) (i := 8) (v := .agg #[.int .i64 pk, V rg, V rs, V rl, V rp]) rfl rfl (by kernel_rfl) (by kernel_rfl) (by kernel_rfl) (fun _ _ _ h => h) (Or.inl ⟨by kernel_rfl, by intro u hSu; obtain ⟨r0, r1, r2, r3, r4, r5, r6, r7, r8, r9, r10⟩ := hSu.2.c11; go_simp⟩) hr ?_
      simp only [Act.put, List.setIfInBounds_toArray, List.set_cons_zero, List.set_cons_succ]
      refine take_to (some 141) (i := 9) (v := .agg #[.string S, .int .i64 pk, V rg, V rs, V rl, V rp, .int .u64 0, .int .u64 0, .int .u64 0]) rfl rfl (by kernel_rfl) (by kernel_rfl) (by kernel_rfl) (fun _ _ _ h => h) (Or.inl ⟨by kernel_rfl, by intro u hSu; go_simp⟩) hr ?_
      simp only [Act.put, List.setIfInBounds_toArray, List.set_cons_zero, List.set_cons_succ]
      refine take_to (some 142) (i := 10) (v := .pointer (some ⟨g, i * 9, none⟩)) rfl rfl (by kernel_rfl) (by kernel_rfl) (by kernel_rfl) (fun _ _ _ h => h) (Or.inl ⟨by kernel_rfl, by intro u hSu; go_simp⟩) hr ?_
      simp only [Act.put, List.setIfInBounds_toArray, List.set_cons_zero, List.set_cons_succ]
      refine wpAnyH_ready (rs := [11]) (by kernel_rfl) (by simp) ?_
      refine AllReadyH.cons rfl (fun K hK => ?_) AllReadyH.nil
      obtain ⟨d0, d1, d2, d3, d4, d5, d6, d7, d8⟩ := hat0
      have gf : ∀ t, wd.frozen? ⟨g, t, none⟩ = false := fun t => hX.own.frozen
      go_simp
      have hX2 := hX.put i (by rw [ins_len xs i z HI.out]; have := HI.out; omega) (S, ⟨pk, rg, rs, rl, rp⟩, Lev0)
      rw [ins_put xs i z (S, ⟨pk, rg, rs, rl, rp⟩, Lev0) HI.out] at hX2
      obtain ⟨wz, hwz⟩ : ∃ wz, wd.setCells g (i * 9) (EC (S, ⟨pk, rg, rs, rl, rp⟩, Lev0)) = wz := ⟨_, rfl⟩
      rw [hwz] at hX2
      generalize hq : World.setCell _ _ _ = wq
      obtain rfl : wq = wz := hq.symm.trans hwz
      refine hK.out _ _ ⟨hX2.st, hX2.rc⟩ (fun _ => ?_)
      clear hK K hq hwz d0 d1 d2 d3 d4 d5 d6 d7 d8 gf hX hr
      have hX := hX2
      clear hX2
      refine wpAnyH_done (by kernel_rfl) ?_ _
      obtain ⟨s0, s1, s2⟩ := hX.st.c3
      have g0 := hX.st.frozen 0
      go_upto_region 28 with fail
      have h2 := hX.cell 0 (V n) (l' := n) (f' := f) rfl
      clear s0 s1 s2 g0 hX
      generalize World.setCell wq ⟨sb, 0, none⟩ (V n) = wy at *
      obtain ⟨s0, s1, s2⟩ := h2.st.c3
      obtain ⟨r0, r1, r2, r3, r4, r5, r6, r7, r8, r9, r10⟩ := h2.rc.c11
      by_cases hgt : (f : Int) < (fl : Int)
      · have hg2 : f < fl := by omega
        have hg3 : decide (f < fl) = true := decide_eq_true hg2
        go_quiet (fail)
        clear s0 s1 s2 r0 r1 r2 r3 r4 r5 r6 r7 r8 r9 r10
        have h3 := h2.up (up_drewN wy nq)
        generalize wy.drewN nq = wz at *
        clear h2
        have HM : Hid (max f fl = fl) := by show _ = _; omega
        clear hgt hg2 hg3
        obtain ⟨s0, s1, s2⟩ := h3.st.c3
        obtain ⟨r0, r1, r2, r3, r4, r5, r6, r7, r8, r9, r10⟩ := h3.rc.c11
        have g1 := h3.st.frozen 1
        have h4 := h3.cell 1 (V fl) (l' := n) (f' := fl) rfl
        clear h3
        go_wp2
        go_ret
        exact ⟨rfl, _, by rw [HM.out]; exact h4.st, h4.own, h4.tt⟩
      · have hg2 : ¬ f < fl := by omega
        have hg3 : decide (f < fl) = false := decide_eq_false hg2
        have hg4 : decide ((f : Int) < (fl : Int)) = false := decide_eq_false hgt
        go_quiet (fail)
        have h3 := h2.up (up_drewN wy nq)
        have HM : Hid (max f fl = f) := by show _ = _; omega
        clear h2 hgt hg2 hg3 hg4 s0 s1 s2 r0 r1 r2 r3 r4 r5 r6 r7 r8 r9 r10
        go_wp2
        go_ret
        exact ⟨rfl, _, by rw [HM.out]; exact h3.st, h3.own, h3.tt⟩
end Go.Proofs.YtdddfapelencoaaDoor

set_option linter.unusedVariables false
set_option linter.unusedSimpArgs false
namespace Go.Proofs.YtdddfapelencoaaDoor
open Go Go.RowKit

set_option maxRecDepth 20000 in
set_option maxHeartbeats 6400000 in
theorem rstep_ceil_unfit (sb l f n N cp i : Nat) (g : Nat) (fl : Nat) (S : ByteArray) (pk : Int) (rg rs rl rp rt ri rc : Nat) (w : World) (hb : Box w sb #[V l, V f, .slice (some ⟨g, 0, none⟩) N cp])
    (hV : ∀ u, Calls Tryd.prog 38 #[.agg #[.int .i64 3, V fl, .string S, .int .i64 pk, V rg, V rs, V rl, V rp, V rt, V ri, V rc]] u fun e w' => e = .returned (.bool true) ∧ Up u w') (hlt : l < 4611686018427387904) (hne : n = l + 1) (hi : i ≤ N) (hN : N ≤ 4096) (hF : ∀ u, Up w u → Calls Tryd.prog 10 #[.agg #[V l, V f, .slice (some ⟨g, 0, none⟩) N cp], .string S] u fun e w' => e = .returned (.tuple #[.int .i64 (i : Int), .bool true]) ∧ Up u w') (hin : i < N) (xk : ByteArray) (qk : Int) (qg qs ql qp qt qi qc : Nat) (hat : EntAt w g (i * 9) (xk, ⟨qk, qg, qs, ql, qp⟩, ⟨qt, qi, qc⟩)) (hFi : ∀ u, Calls Tryd.prog 23 #[Pv qk qg qs ql qp, Lv rt ri rc] u fun e w' => e = .returned (.bool false) ∧ Up u w') :
    Calls Tryd.prog 31 #[.pointer (some ⟨sb, 0, none⟩), V n, .agg #[.int .i64 3, V fl, .string S, .int .i64 pk, V rg, V rs, V rl, V rp, V rt, V ri, V rc]] w fun e w' => e = .returned (.int .i64 12) ∧ Up w w' := by
  have HIN : Hid (i < N) := hin
  have HAT : Hid (EntAt w g (i * 9) (xk, ⟨qk, qg, qs, ql, qp⟩, ⟨qt, qi, qc⟩)) := hat
  have HFI : Hid (∀ u, Calls Tryd.prog 23 #[Pv qk qg qs ql qp, Lv rt ri rc] u fun e w' => e = .returned (.bool false) ∧ Up u w') := hFi
  clear hin hat hFi
  have e1 : IntKind.u64.wrap ((l : Int) + 1) = (l : Int) + 1 := by rw [IntKind.wrap_u64]; omega
  have hq3 : ¬ (4611686018427387904 : Int) ≤ (l : Int) := by omega
  have hq4 : decide ((4611686018427387904 : Int) ≤ (l : Int)) = false := decide_eq_false hq3
  have hq2 : ((n : Int) != (l : Int) + 1) = false := by rw [hne]; simp
  have HF : Hid (∀ u, Up w u → Calls Tryd.prog 10 #[.agg #[V l, V f, .slice (some ⟨g, 0, none⟩) N cp], .string S] u fun e w' => e = .returned (.tuple #[.int .i64 (i : Int), .bool true]) ∧ Up u w') := hF
  have hN1 : (N : Int) ≤ 4096 := by omega
  have hi1 : (i : Int) ≤ (N : Int) := by omega
  have HNE : Hid (n = l + 1) := hne
  clear hlt hne hF
  have HV : Hid (∀ u, Calls Tryd.prog 38 #[.agg #[.int .i64 3, V fl, .string S, .int .i64 pk, V rg, V rs, V rl, V rp, V rt, V ri, V rc]] u fun e w' => e = .returned (.bool true) ∧ Up u w') := hV
  have b0 : Box (w.alloc (.cells #[.int .i64 3, V fl, .string S, .int .i64 pk, V rg, V rs, V rl, V rp, V rt, V ri, V rc] 39)) w.heap.size #[.int .i64 3, V fl, .string S, .int .i64 pk, V rg, V rs, V rl, V rp, V rt, V ri, V rc] := Box.new _ _ _
  have u0 : Up w (w.alloc (.cells #[.int .i64 3, V fl, .string S, .int .i64 pk, V rg, V rs, V rl, V rp, V rt, V ri, V rc] 39)) := Up.alloc _ _
  have b1 := hb.up u0
  obtain ⟨B, hB⟩ : ∃ B, w.heap.size = B := ⟨_, rfl⟩
  have HB : Hid (w.heap.size = B) := hB
  rw [hB] at b0
  clear hV hb
  go_enter Tryd.func31, Tryd.ntmps31
  go_upto_region 1 with fail
  clear hB
  generalize w.alloc (.cells #[.int .i64 3, V fl, .string S, .int .i64 pk, V rg, V rs, V rl, V rp, V rt, V ri, V rc] 39) = w0 at *
  obtain ⟨r0, r1, r2, r3, r4, r5, r6, r7, r8, r9, r10⟩ := b0.c11
  go_wp2_with fail
  refine (HV.out _).mono ?_
  rintro e w1 ⟨rfl, u1⟩
  have hU := u0.trans u1
  replace b0 := b0.up u1
  replace b1 := b1.up u1
  clear r0 r1 r2 r3 r4 r5 r6 r7 r8 r9 r10 u0 u1 HV
  obtain ⟨r0, r1, r2, r3, r4, r5, r6, r7, r8, r9, r10⟩ := b0.c11
  obtain ⟨s0, s1, s2⟩ := b1.c3
  go_upto_region 5 with fail
  clear r0 r1 r2 r3 r4 r5 r6 r7 r8 r9 r10 s0 s1 s2 hq2 hq3 hq4 e1
  replace hU := hU.trans (Up.drew w1)
  have hs : Sg sb B l f (.slice (some ⟨g, 0, none⟩) N cp) #[.int .i64 3, V fl, .string S, .int .i64 pk, V rg, V rs, V rl, V rp, V rt, V ri, V rc] w w1.drew := ⟨b1.up (Up.drew w1), b0.up (Up.drew w1), Touch.of_up hU _⟩
  clear b0 b1
  refine wp_region_held_drew (S := Sg sb B l f (.slice (some ⟨g, 0, none⟩) N cp) #[.int .i64 3, V fl, .string S, .int .i64 pk, V rg, V rs, V rl, V rp, V rt, V ri, V rc] w) (by kernel_rfl) hs (fun hs0 => ?_)
  clear hs0
  generalize w1.drew = wd at *
  refine take_to (some 29) (i := 0) (v := .pointer (some ⟨sb, 0, none⟩)) rfl rfl (by kernel_rfl) (by kernel_rfl) (by kernel_rfl) (fun _ _ _ h => h) (Or.inl ⟨by kernel_rfl, by intro u hSu; go_simp⟩) hs ?_
  simp only [Act.put, List.setIfInBounds_toArray, List.set_cons_zero, List.set_cons_succ]
  refine take_to (some 30) (i := 1) (v := .pointer (some ⟨sb, 0, none⟩)) rfl rfl (by kernel_rfl) (by kernel_rfl) (by kernel_rfl) (fun _ _ _ h => h) (Or.inl ⟨by kernel_rfl, by intro u hSu; go_simp⟩) hs ?_
  simp only [Act.put, List.setIfInBounds_toArray, List.set_cons_zero, List.set_cons_succ]
  refine take_to (some 31) (i := 2) (v := .agg #[V l, V f, .slice (some ⟨g, 0, none⟩) N cp]) rfl rfl (by kernel_rfl) (by kernel_rfl) (by kernel_rfl) (fun _ _ _ h => h) (Or.inl ⟨by kernel_rfl, by intro u hSu; obtain ⟨s0, s1, s2⟩ := hSu.st.c3; go_simp⟩) hs ?_
  simp only [Act.put, List.setIfInBounds_toArray, List.set_cons_zero, List.set_cons_succ]
  refine take_to (some 32) (i := 3) (v := .pointer (some ⟨B, 2, none⟩)) rfl rfl (by kernel_rfl) (by kernel_rfl) (by kernel_rfl) (fun _ _ _ h => h) (Or.inl ⟨by kernel_rfl, by intro u hSu; go_simp⟩) hs ?_
  simp only [Act.put, List.setIfInBounds_toArray, List.set_cons_zero, List.set_cons_succ]
  refine take_to (some 33) (i := 4) (v := .string S) rfl rfl (by kernel_rfl) (by kernel_rfl) (by kernel_rfl) (fun _ _ _ h => h) (Or.inl ⟨by kernel_rfl, by intro u hSu; obtain ⟨r0, r1, r2, r3, r4, r5, r6, r7, r8, r9, r10⟩ := hSu.rc.c11; go_simp⟩) hs ?_
  simp only [Act.put, List.setIfInBounds_toArray, List.set_cons_zero, List.set_cons_succ]
  refine wpAnyH_ready (rs := [5]) (by kernel_rfl) (by simp) ?_
  refine AllReadyH.cons rfl (fun K hK => ?_) AllReadyH.nil
  go_simp
  refine (HF.out _ hU).mono ?_
  rintro e w2 ⟨rfl, u1⟩
  replace hU := hU.trans u1
  replace hs := hs.up u1
  refine hK.out _ _ hs (fun _ => ?_)
  clear hK K
  refine take_to (some 28) (i := 6) (v := .tuple #[.int .i64 (i : Int), .bool true]) rfl rfl (by kernel_rfl) (by kernel_rfl) (by kernel_rfl) (fun _ _ _ h => h) (Or.inl ⟨by kernel_rfl, by intro u hSu; go_simp⟩) hs ?_
  simp only [Act.put, List.setIfInBounds_toArray, List.set_cons_zero, List.set_cons_succ]
  refine take_to (some 35) (i := 7) (v := .int .i64 (i : Int)) rfl rfl (by kernel_rfl) (by kernel_rfl) (by kernel_rfl) (fun _ _ _ h => h) (Or.inl ⟨by kernel_rfl, by intro u hSu; go_simp⟩) hs ?_
  simp only [Act.put, List.setIfInBounds_toArray, List.set_cons_zero, List.set_cons_succ]
  refine take_to (some 36) (i := 8) (v := .bool true) rfl rfl (by kernel_rfl) (by kernel_rfl) (by kernel_rfl) (fun _ _ _ h => h) (Or.inl ⟨by kernel_rfl, by intro u hSu; go_simp⟩) hs ?_
  simp only [Act.put, List.setIfInBounds_toArray, List.set_cons_zero, List.set_cons_succ]
  refine take_to (some 7) (i := 9) (v := .int .i64 (i : Int)) rfl rfl (by kernel_rfl) (by kernel_rfl) (by kernel_rfl) (fun _ _ _ h => h) (Or.inl ⟨by kernel_rfl, by intro u hSu; go_simp⟩) hs ?_
  simp only [Act.put, List.setIfInBounds_toArray, List.set_cons_zero, List.set_cons_succ]
  refine take_to (some 8) (i := 10) (v := .bool true) rfl rfl (by kernel_rfl) (by kernel_rfl) (by kernel_rfl) (fun _ _ _ h => h) (Or.inl ⟨by kernel_rfl, by intro u hSu; go_simp⟩) hs ?_
  simp only [Act.put, List.setIfInBounds_toArray, List.set_cons_zero, List.set_cons_succ]
  refine wpAnyH_done (by kernel_rfl) ?_ _
  clear HF
  obtain ⟨r0, r1, r2, r3, r4, r5, r6, r7, r8, r9, r10⟩ := hs.rc.c11
  obtain ⟨s0, s1, s2⟩ := hs.st.c3
  have hin1 : (i : Int) < (N : Int) := by have := HIN.out; omega
  go_upto_region 7 with fail
  clear r0 r1 r2 r3 r4 r5 r6 r7 r8 r9 r10 s0 s1 s2
  replace hU := hU.trans (Up.drew w2)
  have hr : (fun u => Sg sb B l f (.slice (some ⟨g, 0, none⟩) N cp) #[.int .i64 3, V fl, .string S, .int .i64 pk, V rg, V rs, V rl, V rp, V rt, V ri, V rc] w u ∧ EntAt u g (i * 9) (xk, ⟨qk, qg, qs, ql, qp⟩, ⟨qt, qi, qc⟩)) w2.drew := ⟨hs.up (Up.drew w2), HAT.out.up hU⟩
  clear hs
  refine wp_region_held_drew (S := fun u => Sg sb B l f (.slice (some ⟨g, 0, none⟩) N cp) #[.int .i64 3, V fl, .string S, .int .i64 pk, V rg, V rs, V rl, V rp, V rt, V ri, V rc] w u ∧ EntAt u g (i * 9) (xk, ⟨qk, qg, qs, ql, qp⟩, ⟨qt, qi, qc⟩)) (by kernel_rfl) hr (fun hs0 => ?_)
  clear hs0
  generalize w2.drew = wd7 at *
  refine take_to (some 39) (i := 0) (v := .bool true) rfl rfl (by kernel_rfl) (by kernel_rfl) (by kernel_rfl) (fun _ _ _ h => h) (Or.inl ⟨by kernel_rfl, by intro u hSu; go_simp⟩) hr ?_
  simp only [Act.put, List.setIfInBounds_toArray, List.set_cons_zero, List.set_cons_succ]
  refine take_to (some 40) (i := 1) (v := .bool false) rfl rfl (by kernel_rfl) (by kernel_rfl) (by kernel_rfl) (fun _ _ _ h => h) (Or.inl ⟨by kernel_rfl, by intro u hSu; go_simp⟩) hr ?_
  simp only [Act.put, List.setIfInBounds_toArray, List.set_cons_zero, List.set_cons_succ]
  refine take_to (some 41) (i := 2) (v := .bool false) rfl rfl (by kernel_rfl) (by kernel_rfl) (by kernel_rfl) (fun _ _ _ h => h) (Or.inl ⟨by kernel_rfl, by intro u hSu; go_simp⟩) hr ?_
  simp only [Act.put, List.setIfInBounds_toArray, List.set_cons_zero, List.set_cons_succ]
  refine take_to (some 42) (i := 3) (v := .pointer (some ⟨sb, 0, none⟩)) rfl rfl (by kernel_rfl) (by kernel_rfl) (by kernel_rfl) (fun _ _ _ h => h) (Or.inl ⟨by kernel_rfl, by intro u hSu; go_simp⟩) hr ?_
  simp only [Act.put, List.setIfInBounds_toArray, List.set_cons_zero, List.set_cons_succ]
  refine take_to (some 43) (i := 4) (v := .pointer (some ⟨sb, 0, none⟩)) rfl rfl (by kernel_rfl) (by kernel_rfl) (by kernel_rfl) (fun _ _ _ h => h) (Or.inl ⟨by kernel_rfl, by intro u hSu; go_simp⟩) hr ?_
  simp only [Act.put, List.setIfInBounds_toArray, List.set_cons_zero, List.set_cons_succ]
  refine take_to (some 44) (i := 5) (v := .pointer (some ⟨sb, 2, none⟩)) rfl rfl (by kernel_rfl) (by kernel_rfl) (by kernel_rfl) (fun _ _ _ h => h) (Or.inl ⟨by kernel_rfl, by intro u hSu; go_simp⟩) hr ?_
  simp only [Act.put, List.setIfInBounds_toArray, List.set_cons_zero, List.set_cons_succ]
  refine take_to (some 45) (i := 6) (v := .slice (some ⟨g, 0, none⟩) N cp) rfl rfl (by kernel_rfl) (by kernel_rfl) (by kernel_rfl) (fun _ _ _ h => h) (Or.inl ⟨by kernel_rfl, by intro u hSu; obtain ⟨s0, s1, s2⟩ := hSu.1.st.c3; go_simp⟩) hr ?_
  simp only [Act.put, List.setIfInBounds_toArray, List.set_cons_zero, List.set_cons_succ]
  refine take_to (some 46) (i := 7) (v := .int .i64 (i : Int)) rfl rfl (by kernel_rfl) (by kernel_rfl) (by kernel_rfl) (fun _ _ _ h => h) (Or.inl ⟨by kernel_rfl, by intro u hSu; go_simp⟩) hr ?_
  simp only [Act.put, List.setIfInBounds_toArray, List.set_cons_zero, List.set_cons_succ]
  refine take_to (some 47) (i := 8) (v := .pointer (some ⟨g, i * 9, none⟩)) rfl rfl (by kernel_rfl) (by kernel_rfl) (by kernel_rfl) (fun _ _ _ h => h) (Or.inl ⟨by kernel_rfl, by intro u hSu; go_simp⟩) hr ?_
  simp only [Act.put, List.setIfInBounds_toArray, List.set_cons_zero, List.set_cons_succ]
  refine take_to (some 48) (i := 9) (v := .pointer (some ⟨g, i * 9 + 1, none⟩)) rfl rfl (by kernel_rfl) (by kernel_rfl) (by kernel_rfl) (fun _ _ _ h => h) (Or.inl ⟨by kernel_rfl, by intro u hSu; go_simp⟩) hr ?_
  simp only [Act.put, List.setIfInBounds_toArray, List.set_cons_zero, List.set_cons_succ]
  refine take_to (some 49) (i := 10) (v := .agg #[.int .i64 qk, V qg, V qs, V ql, V qp]) rfl rfl (by kernel_rfl) (by kernel_rfl) (by kernel_rfl) (fun _ _ _ h => h) (Or.inl ⟨by kernel_rfl, by intro u hSu; obtain ⟨d0, d1, d2, d3, d4, d5, d6, d7, d8⟩ := hSu.2; go_simp⟩) hr ?_
  simp only [Act.put, List.setIfInBounds_toArray, List.set_cons_zero, List.set_cons_succ]
  refine take_to (some 50) (i := 11) (v := .pointer (some ⟨B, 8, none⟩)) rfl rfl (by kernel_rfl) (by kernel_rfl) (by kernel_rfl) (fun _ _ _ h => h) (Or.inl ⟨by kernel_rfl, by intro u hSu; go_simp⟩) hr ?_
  simp only [Act.put, List.setIfInBounds_toArray, List.set_cons_zero, List.set_cons_succ]
  refine take_to (some 51) (i := 12) (v := .agg #[V rt, V ri, V rc]) rfl rfl (by kernel_rfl) (by kernel_rfl) (by kernel_rfl) (fun _ _ _ h => h) (Or.inl ⟨by kernel_rfl, by intro u hSu; obtain ⟨r0, r1, r2, r3, r4, r5, r6, r7, r8, r9, r10⟩ := hSu.1.rc.c11; go_simp⟩) hr ?_
  simp only [Act.put, List.setIfInBounds_toArray, List.set_cons_zero, List.set_cons_succ]
  refine wpAnyH_ready (rs := [13]) (by kernel_rfl) (by simp) ?_
  refine AllReadyH.cons rfl (fun K hK => ?_) AllReadyH.nil
  go_simp
  refine (HFI.out _).mono ?_
  rintro e w3 ⟨rfl, u3⟩
  replace hU := hU.trans u3
  replace hr := (⟨hr.1.up u3, hr.2.up u3⟩ : _ ∧ _)
  clear u3
  refine hK.out _ _ hr (fun _ => ?_)
  clear hK K
  refine take_to (some 53) (i := 14) (v := .bool true) rfl rfl (by kernel_rfl) (by kernel_rfl) (by kernel_rfl) (fun _ _ _ h => h) (Or.inl ⟨by kernel_rfl, by intro u hSu; go_simp⟩) hr ?_
  simp only [Act.put, List.setIfInBounds_toArray, List.set_cons_zero, List.set_cons_succ]
  refine take_to (some 54) (i := 15) (v := .bool true) rfl rfl (by kernel_rfl) (by kernel_rfl) (by kernel_rfl) (fun _ _ _ h => h) (Or.inl ⟨by kernel_rfl, by intro u hSu; go_simp⟩) hr ?_
  simp only [Act.put, List.setIfInBounds_toArray, List.set_cons_zero, List.set_cons_succ]
  refine take_to (some 55) (i := 16) (v := .bool true) rfl rfl (by kernel_rfl) (by kernel_rfl) (by kernel_rfl) (fun _ _ _ h => h) (Or.inl ⟨by kernel_rfl, by intro u hSu; go_simp⟩) hr ?_
  simp only [Act.put, List.setIfInBounds_toArray, List.set_cons_zero, List.set_cons_succ]
  refine take_to (some 56) (i := 17) (v := undef) rfl rfl (by kernel_rfl) (by kernel_rfl) (by kernel_rfl) (fun _ _ _ h => h) (Or.inr ⟨by kernel_rfl, rfl⟩) hr ?_
  simp only [Act.put, List.setIfInBounds_toArray, List.set_cons_zero, List.set_cons_succ]
  refine take_to (some 57) (i := 18) (v := undef) rfl rfl (by kernel_rfl) (by kernel_rfl) (by kernel_rfl) (fun _ _ _ h => h) (Or.inr ⟨by kernel_rfl, rfl⟩) hr ?_
  simp only [Act.put, List.setIfInBounds_toArray, List.set_cons_zero, List.set_cons_succ]
  refine take_to (some 58) (i := 19) (v := undef) rfl rfl (by kernel_rfl) (by kernel_rfl) (by kernel_rfl) (fun _ _ _ h => h) (Or.inr ⟨by kernel_rfl, rfl⟩) hr ?_
  simp only [Act.put, List.setIfInBounds_toArray, List.set_cons_zero, List.set_cons_succ]
  refine take_to (some 59) (i := 20) (v := undef) rfl rfl (by kernel_rfl) (by kernel_rfl) (by kernel_rfl) (fun _ _ _ h => h) (Or.inr ⟨by kernel_rfl, rfl⟩) hr ?_
  simp only [Act.put, List.setIfInBounds_toArray, List.set_cons_zero, List.set_cons_succ]
  refine take_to (some 60) (i := 21) (v := undef) rfl rfl (by kernel_rfl) (by kernel_rfl) (by kernel_rfl) (fun _ _ _ h => h) (Or.inr ⟨by kernel_rfl, rfl⟩) hr ?_
  simp only [Act.put, List.setIfInBounds_toArray, List.set_cons_zero, List.set_cons_succ]
  refine take_to (some 61) (i := 22) (v := undef) rfl rfl (by kernel_rfl) (by kernel_rfl) (by kernel_rfl) (fun _ _ _ h => h) (Or.inr ⟨by kernel_rfl, rfl⟩) hr ?_
  simp only [Act.put, List.setIfInBounds_toArray, List.set_cons_zero, List.set_cons_succ]
  refine take_to (some 62) (i := 23) (v := undef) rfl rfl (by kernel_rfl) (by kernel_rfl) (by kernel_rfl) (fun _ _ _ h => h) (Or.inr ⟨by kernel_rfl, rfl⟩) hr ?_
  simp only [Act.put, List.setIfInBounds_toArray, List.set_cons_zero, List.set_cons_succ]
  refine take_to (some 63) (i := 24) (v := undef) rfl rfl (by kernel_rfl) (by kernel_rfl) (by kernel_rfl) (fun _ _ _ h => h) (Or.inr ⟨by kernel_rfl, rfl⟩) hr ?_
  simp only [Act.put, List.setIfInBounds_toArray, List.set_cons_zero, List.set_cons_succ]
  refine take_to (some 64) (i := 25) (v := undef) rfl rfl (by kernel_rfl) (by kernel_rfl) (by kernel_rfl) (fun _ _ _ h => h) (Or.inr ⟨by kernel_rfl, rfl⟩) hr ?_
  simp only [Act.put, List.setIfInBounds_toArray, List.set_cons_zero, List.set_cons_succ]
  refine take_to (some 65) (i := 26) (v := undef) rfl rfl (by kernel_rfl) (by kernel_rfl) (by kernel_rfl) (fun _ _ _ h => h) (Or.inr ⟨by kernel_rfl, rfl⟩) hr ?_
  simp only [Act.put, List.setIfInBounds_toArray, List.set_cons_zero, List.set_cons_succ]
  refine take_to (some 66) (i := 27) (v := undef) rfl rfl (by kernel_rfl) (by kernel_rfl) (by kernel_rfl) (fun _ _ _ h => h) (Or.inr ⟨by kernel_rfl, rfl⟩) hr ?_
  simp only [Act.put, List.setIfInBounds_toArray, List.set_cons_zero, List.set_cons_succ]
  refine take_to (some 67) (i := 28) (v := undef) rfl rfl (by kernel_rfl) (by kernel_rfl) (by kernel_rfl) (fun _ _ _ h => h) (Or.inr ⟨by kernel_rfl, rfl⟩) hr ?_
  simp only [Act.put, List.setIfInBounds_toArray, List.set_cons_zero, List.set_cons_succ]
  refine take_to (some 68) (i := 29) (v := undef) rfl rfl (by kernel_rfl) (by kernel_rfl) (by kernel_rfl) (fun _ _ _ h => h) (Or.inr ⟨by kernel_rfl, rfl⟩) hr ?_
  simp only [Act.put, List.setIfInBounds_toArray, List.set_cons_zero, List.set_cons_succ]
  refine take_to (some 69) (i := 30) (v := undef) rfl rfl (by kernel_rfl) (by kernel_rfl) (by kernel_rfl) (fun _ _ _ h => h) (Or.inr ⟨by kernel_rfl, rfl⟩) hr ?_
  simp only [Act.put, List.setIfInBounds_toArray, List.set_cons_zero, List.set_cons_succ]
  refine take_to (some 70) (i := 31) (v := undef) rfl rfl (by kernel_rfl) (by kernel_rfl) (by kernel_rfl) (fun _ _ _ h => h) (Or.inr ⟨by kernel_rfl, rfl⟩) hr ?_
  simp only [Act.put, List.setIfInBounds_toArray, List.set_cons_zero, List.set_cons_succ]
  refine take_to (some 71) (i := 32) (v := undef) rfl rfl (by kernel_rfl) (by kernel_rfl) (by kernel_rfl) (fun _ _ _ h => h) (Or.inr ⟨by kernel_rfl, rfl⟩) hr ?_
  simp only [Act.put, List.setIfInBounds_toArray, List.set_cons_zero, List.set_cons_succ]
  refine take_to (some 72) (i := 33) (v := undef) rfl rfl (by kernel_rfl) (by kernel_rfl) (by kernel_rfl) (fun _ _ _ h => h) (Or.inr ⟨by kernel_rfl, rfl⟩) hr ?_
  simp only [Act.put, List.setIfInBounds_toArray, List.set_cons_zero, List.set_cons_succ]
  refine take_to (some 73) (i := 34) (v := undef) rfl rfl (by kernel_rfl) (by kernel_rfl) (by kernel_rfl) (fun _ _ _ h => h) (Or.inr ⟨by kernel_rfl, rfl⟩) hr ?_
  simp only [Act.put, List.setIfInBounds_toArray, List.set_cons_zero, List.set_cons_succ]
  refine take_to (some 74) (i := 35) (v := undef) rfl rfl (by kernel_rfl) (by kernel_rfl) (by kernel_rfl) (fun _ _ _ h => h) (Or.inr ⟨by kernel_rfl, rfl⟩) hr ?_
  simp only [Act.put, List.setIfInBounds_toArray, List.set_cons_zero, List.set_cons_succ]
  refine take_to (some 75) (i := 36) (v := undef) rfl rfl (by kernel_rfl) (by kernel_rfl) (by kernel_rfl) (fun _ _ _ h => h) (Or.inr ⟨by kernel_rfl, rfl⟩) hr ?_
  simp only [Act.put, List.setIfInBounds_toArray, List.set_cons_zero, List.set_cons_succ]
  refine take_to (some 76) (i := 37) (v := .bool true) rfl rfl (by kernel_rfl) (by kernel_rfl) (by kernel_rfl) (fun _ _ _ h => h) (Or.inl ⟨by kernel_rfl, by intro u hSu; go_simp⟩) hr ?_
  simp only [Act.put, List.setIfInBounds_toArray, List.set_cons_zero, List.set_cons_succ]
  refine wpAnyH_done (by kernel_rfl) ?_ _
  go_wp2
  go_ret
  exact ⟨rfl, hU⟩

set_option maxRecDepth 20000 in
set_option maxHeartbeats 6400000 in
theorem rstep_ceil_below (sb l f n N cp i : Nat) (g : Nat) (fl : Nat) (S : ByteArray) (pk : Int) (rg rs rl rp rt ri rc : Nat) (w : World) (hb : Box w sb #[V l, V f, .slice (some ⟨g, 0, none⟩) N cp])
    (hV : ∀ u, Calls Tryd.prog 38 #[.agg #[.int .i64 3, V fl, .string S, .int .i64 pk, V rg, V rs, V rl, V rp, V rt, V ri, V rc]] u fun e w' => e = .returned (.bool true) ∧ Up u w') (hlt : l < 4611686018427387904) (hne : n = l + 1) (hi : i ≤ N) (hN : N ≤ 4096) (hF : ∀ u, Up w u → Calls Tryd.prog 10 #[.agg #[V l, V f, .slice (some ⟨g, 0, none⟩) N cp], .string S] u fun e w' => e = .returned (.tuple #[.int .i64 (i : Int), .bool true]) ∧ Up u w') (hin : i < N) (xk : ByteArray) (qk : Int) (qg qs ql qp qt qi qc : Nat) (hat : EntAt w g (i * 9) (xk, ⟨qk, qg, qs, ql, qp⟩, ⟨qt, qi, qc⟩)) (hFi : ∀ u, Calls Tryd.prog 23 #[Pv qk qg qs ql qp, Lv rt ri rc] u fun e w' => e = .returned (.bool true) ∧ Up u w') (hCo : ∀ u, Calls Tryd.prog 39 #[Pv qk qg qs ql qp, Lv rt ri rc, Lv qt qi qc] u fun e w' => e = .returned (.bool false) ∧ Up u w') :
    Calls Tryd.prog 31 #[.pointer (some ⟨sb, 0, none⟩), V n, .agg #[.int .i64 3, V fl, .string S, .int .i64 pk, V rg, V rs, V rl, V rp, V rt, V ri, V rc]] w fun e w' => e = .returned (.int .i64 12) ∧ Up w w' := by
  have HIN : Hid (i < N) := hin
  have HAT : Hid (EntAt w g (i * 9) (xk, ⟨qk, qg, qs, ql, qp⟩, ⟨qt, qi, qc⟩)) := hat
  have HFI : Hid (∀ u, Calls Tryd.prog 23 #[Pv qk qg qs ql qp, Lv rt ri rc] u fun e w' => e = .returned (.bool true) ∧ Up u w') := hFi
  have HCO : Hid (∀ u, Calls Tryd.prog 39 #[Pv qk qg qs ql qp, Lv rt ri rc, Lv qt qi qc] u fun e w' => e = .returned (.bool false) ∧ Up u w') := hCo
  clear hCo
  clear hin hat hFi
  have e1 : IntKind.u64.wrap ((l : Int) + 1) = (l : Int) + 1 := by rw [IntKind.wrap_u64]; omega
  have hq3 : ¬ (4611686018427387904 : Int) ≤ (l : Int) := by omega
  have hq4 : decide ((4611686018427387904 : Int) ≤ (l : Int)) = false := decide_eq_false hq3
  have hq2 : ((n : Int) != (l : Int) + 1) = false := by rw [hne]; simp
  have HF : Hid (∀ u, Up w u → Calls Tryd.prog 10 #[.agg #[V l, V f, .slice (some ⟨g, 0, none⟩) N cp], .string S] u fun e w' => e = .returned (.tuple #[.int .i64 (i : Int), .bool true]) ∧ Up u w') := hF
  have hN1 : (N : Int) ≤ 4096 := by omega
  have hi1 : (i : Int) ≤ (N : Int) := by omega
  have HNE : Hid (n = l + 1) := hne
  clear hlt hne hF
  have HV : Hid (∀ u, Calls Tryd.prog 38 #[.agg #[.int .i64 3, V fl, .string S, .int .i64 pk, V rg, V rs, V rl, V rp, V rt, V ri, V rc]] u fun e w' => e = .returned (.bool true) ∧ Up u w') := hV
  have b0 : Box (w.alloc (.cells #[.int .i64 3, V fl, .string S, .int .i64 pk, V rg, V rs, V rl, V rp, V rt, V ri, V rc] 39)) w.heap.size #[.int .i64 3, V fl, .string S, .int .i64 pk, V rg, V rs, V rl, V rp, V rt, V ri, V rc] := Box.new _ _ _
  have u0 : Up w (w.alloc (.cells #[.int .i64 3, V fl, .string S, .int .i64 pk, V rg, V rs, V rl, V rp, V rt, V ri, V rc] 39)) := Up.alloc _ _
  have b1 := hb.up u0
  obtain ⟨B, hB⟩ : ∃ B, w.heap.size = B := ⟨_, rfl⟩
  have HB : Hid (w.heap.size = B) := hB
  rw [hB] at b0
  clear hV hb
  go_enter Tryd.func31, Tryd.ntmps31
  go_upto_region 1 with fail
  clear hB
  generalize w.alloc (.cells #[.int .i64 3, V fl, .string S, .int .i64 pk, V rg, V rs, V rl, V rp, V rt, V ri, V rc] 39) = w0 at *
  obtain ⟨r0, r1, r2, r3, r4, r5, r6, r7, r8, r9, r10⟩ := b0.c11
  go_wp2_with fail
  refine (HV.out _).mono ?_
  rintro e w1 ⟨rfl, u1⟩
  have hU := u0.trans u1
  replace b0 := b0.up u1
  replace b1 := b1.up u1
  clear r0 r1 r2 r3 r4 r5 r6 r7 r8 r9 r10 u0 u1 HV
  obtain ⟨r0, r1, r2, r3, r4, r5, r6, r7, r8, r9, r10⟩ := b0.c11
  obtain ⟨s0, s1, s2⟩ := b1.c3
  go_upto_region 5 with fail
  clear r0 r1 r2 r3 r4 r5 r6 r7 r8 r9 r10 s0 s1 s2 hq2 hq3 hq4 e1
  replace hU := hU.trans (Up.drew w1)
  have hs : Sg sb B l f (.slice (some ⟨g, 0, none⟩) N cp) #[.int .i64 3, V fl, .string S, .int .i64 pk, V rg, V rs, V rl, V rp, V rt, V ri, V rc] w w1.drew := ⟨b1.up (Up.drew w1), b0.up (Up.drew w1), Touch.of_up hU _⟩
  clear b0 b1
  refine wp_region_held_drew (S := Sg sb B l f (.slice (some ⟨g, 0, none⟩) N cp) #[.int .i64 3, V fl, .string S, .int .i64 pk, V rg, V rs, V rl, V rp, V rt, V ri, V rc] w) (by kernel_rfl) hs (fun hs0 => ?_)
  clear hs0
  generalize w1.drew = wd at *
  refine take_to (some 29) (i := 0) (v := .pointer (some ⟨sb, 0, none⟩)) rfl rfl (by kernel_rfl) (by kernel_rfl) (by kernel_rfl) (fun _ _ _ h => h) (Or.inl ⟨by kernel_rfl, by intro u hSu; go_simp⟩) hs ?_
  simp only [Act.put, List.setIfInBounds_toArray, List.set_cons_zero, List.set_cons_succ]
  refine take_to (some 30) (i := 1) (v := .pointer (some ⟨sb, 0, none⟩)) rfl rfl (by kernel_rfl) (by kernel_rfl) (by kernel_rfl) (fun _ _ _ h => h) (Or.inl ⟨by kernel_rfl, by intro u hSu; go_simp⟩) hs ?_
  simp only [Act.put, List.setIfInBounds_toArray, List.set_cons_zero, List.set_cons_succ]
  refine take_to (some 31) (i := 2) (v := .agg #[V l, V f, .slice (some ⟨g, 0, none⟩) N cp]) rfl rfl (by kernel_rfl) (by kernel_rfl) (by kernel_rfl) (fun _ _ _ h => h) (Or.inl ⟨by kernel_rfl, by intro u hSu; obtain ⟨s0, s1, s2⟩ := hSu.st.c3; go_simp⟩) hs ?_
  simp only [Act.put, List.setIfInBounds_toArray, List.set_cons_zero, List.set_cons_succ]
  refine take_to (some 32) (i := 3) (v := .pointer (some ⟨B, 2, none⟩)) rfl rfl (by kernel_rfl) (by kernel_rfl) (by kernel_rfl) (fun _ _ _ h => h) (Or.inl ⟨by kernel_rfl, by intro u hSu; go_simp⟩) hs ?_
  simp only [Act.put, List.setIfInBounds_toArray, List.set_cons_zero, List.set_cons_succ]
  refine take_to (some 33) (i := 4) (v := .string S) rfl rfl (by kernel_rfl) (by kernel_rfl) (by kernel_rfl) (fun _ _ _ h => h) (Or.inl ⟨by kernel_rfl, by intro u hSu; obtain ⟨r0, r1, r2, r3, r4, r5, r6, r7, r8, r9, r10⟩ := hSu.rc.c11; go_simp⟩) hs ?_
  simp only [Act.put, List.setIfInBounds_toArray, List.set_cons_zero, List.set_cons_succ]
  refine wpAnyH_ready (rs := [5]) (by kernel_rfl) (by simp) ?_
  refine AllReadyH.cons rfl (fun K hK => ?_) AllReadyH.nil
  go_simp
  refine (HF.out _ hU).mono ?_
  rintro e w2 ⟨rfl, u1⟩
  replace hU := hU.trans u1
  replace hs := hs.up u1
  refine hK.out _ _ hs (fun _ => ?_)
  clear hK K
  refine take_to (some 28) (i := 6) (v := .tuple #[.int .i64 (i : Int), .bool true]) rfl rfl (by kernel_rfl) (by kernel_rfl) (by kernel_rfl) (fun _ _ _ h => h) (Or.inl ⟨by kernel_rfl, by intro u hSu; go_simp⟩) hs ?_
  simp only [Act.put, List.setIfInBounds_toArray, List.set_cons_zero, List.set_cons_succ]
  refine take_to (some 35) (i := 7) (v := .int .i64 (i : Int)) rfl rfl (by kernel_rfl) (by kernel_rfl) (by kernel_rfl) (fun _ _ _ h => h) (Or.inl ⟨by kernel_rfl, by intro u hSu; go_simp⟩) hs ?_
  simp only [Act.put, List.setIfInBounds_toArray, List.set_cons_zero, List.set_cons_succ]
  refine take_to (some 36) (i := 8) (v := .bool true) rfl rfl (by kernel_rfl) (by kernel_rfl) (by kernel_rfl) (fun _ _ _ h => h) (Or.inl ⟨by kernel_rfl, by intro u hSu; go_simp⟩) hs ?_
  simp only [Act.put, List.setIfInBounds_toArray, List.set_cons_zero, List.set_cons_succ]
  refine take_to (some 7) (i := 9) (v := .int .i64 (i : Int)) rfl rfl (by kernel_rfl) (by kernel_rfl) (by kernel_rfl) (fun _ _ _ h => h) (Or.inl ⟨by kernel_rfl, by intro u hSu; go_simp⟩) hs ?_
  simp only [Act.put, List.setIfInBounds_toArray, List.set_cons_zero, List.set_cons_succ]
  refine take_to (some 8) (i := 10) (v := .bool true) rfl rfl (by kernel_rfl) (by kernel_rfl) (by kernel_rfl) (fun _ _ _ h => h) (Or.inl ⟨by kernel_rfl, by intro u hSu; go_simp⟩) hs ?_
  simp only [Act.put, List.setIfInBounds_toArray, List.set_cons_zero, List.set_cons_succ]
  refine wpAnyH_done (by kernel_rfl) ?_ _
  clear HF
  obtain ⟨r0, r1, r2, r3, r4, r5, r6, r7, r8, r9, r10⟩ := hs.rc.c11
  obtain ⟨s0, s1, s2⟩ := hs.st.c3
  have hin1 : (i : Int) < (N : Int) := by have := HIN.out; omega
  go_upto_region 7 with fail
  clear r0 r1 r2 r3 r4 r5 r6 r7 r8 r9 r10 s0 s1 s2
  replace hU := hU.trans (Up.drew w2)
  have hr : (fun u => Sg sb B l f (.slice (some ⟨g, 0, none⟩) N cp) #[.int .i64 3, V fl, .string S, .int .i64 pk, V rg, V rs, V rl, V rp, V rt, V ri, V rc] w u ∧ EntAt u g (i * 9) (xk, ⟨qk, qg, qs, ql, qp⟩, ⟨qt, qi, qc⟩)) w2.drew := ⟨hs.up (Up.drew w2), HAT.out.up hU⟩
  clear hs
  refine wp_region_held_drew (S := fun u => Sg sb B l f (.slice (some ⟨g, 0, none⟩) N cp) #[.int .i64 3, V fl, .string S, .int .i64 pk, V rg, V rs, V rl, V rp, V rt, V ri, V rc] w u ∧ EntAt u g (i * 9) (xk, ⟨qk, qg, qs, ql, qp⟩, ⟨qt, qi, qc⟩)) (by kernel_rfl) hr (fun hs0 => ?_)
  clear hs0
  generalize w2.drew = wd7 at *
  refine take_to (some 39) (i := 0) (v := .bool true) rfl rfl (by kernel_rfl) (by kernel_rfl) (by kernel_rfl) (fun _ _ _ h => h) (Or.inl ⟨by kernel_rfl, by intro u hSu; go_simp⟩) hr ?_
  simp only [Act.put, List.setIfInBounds_toArray, List.set_cons_zero, List.set_cons_succ]
  refine take_to (some 40) (i := 1) (v := .bool false) rfl rfl (by kernel_rfl) (by kernel_rfl) (by kernel_rfl) (fun _ _ _ h => h) (Or.inl ⟨by kernel_rfl, by intro u hSu; go_simp⟩) hr ?_
  simp only [Act.put, List.setIfInBounds_toArray, List.set_cons_zero, List.set_cons_succ]
  refine take_to (some 41) (i := 2) (v := .bool false) rfl rfl (by kernel_rfl) (by kernel_rfl) (by kernel_rfl) (fun _ _ _ h => h) (Or.inl ⟨by kernel_rfl, by intro u hSu; go_simp⟩) hr ?_
  simp only [Act.put, List.setIfInBounds_toArray, List.set_cons_zero, List.set_cons_succ]
  refine take_to (some 42) (i := 3) (v := .pointer (some ⟨sb, 0, none⟩)) rfl rfl (by kernel_rfl) (by kernel_rfl) (by kernel_rfl) (fun _ _ _ h => h) (Or.inl ⟨by kernel_rfl, by intro u hSu; go_simp⟩) hr ?_
  simp only [Act.put, List.setIfInBounds_toArray, List.set_cons_zero, List.set_cons_succ]
  refine take_to (some 43) (i := 4) (v := .pointer (some ⟨sb, 0, none⟩)) rfl rfl (by kernel_rfl) (by kernel_rfl) (by kernel_rfl) (fun _ _ _ h => h) (Or.inl ⟨by kernel_rfl, by intro u hSu; go_simp⟩) hr ?_
  simp only [Act.put, List.setIfInBounds_toArray, List.set_cons_zero, List.set_cons_succ]
  refine take_to (some 44) (i := 5) (v := .pointer (some ⟨sb, 2, none⟩)) rfl rfl (by kernel_rfl) (by kernel_rfl) (by kernel_rfl) (fun _ _ _ h => h) (Or.inl ⟨by kernel_rfl, by intro u hSu; go_simp⟩) hr ?_
  simp only [Act.put, List.setIfInBounds_toArray, List.set_cons_zero, List.set_cons_succ]
  refine take_to (some 45) (i := 6) (v := .slice (some ⟨g, 0, none⟩) N cp) rfl rfl (by kernel_rfl) (by kernel_rfl) (by kernel_rfl) (fun _ _ _ h => h) (Or.inl ⟨by kernel_rfl, by intro u hSu; obtain ⟨s0, s1, s2⟩ := hSu.1.st.c3; go_simp⟩) hr ?_
  simp only [Act.put, List.setIfInBounds_toArray, List.set_cons_zero, List.set_cons_succ]
  refine take_to (some 46) (i := 7) (v := .int .i64 (i : Int)) rfl rfl (by kernel_rfl) (by kernel_rfl) (by kernel_rfl) (fun _ _ _ h => h) (Or.inl ⟨by kernel_rfl, by intro u hSu; go_simp⟩) hr ?_
  simp only [Act.put, List.setIfInBounds_toArray, List.set_cons_zero, List.set_cons_succ]
  refine take_to (some 47) (i := 8) (v := .pointer (some ⟨g, i * 9, none⟩)) rfl rfl (by kernel_rfl) (by kernel_rfl) (by kernel_rfl) (fun _ _ _ h => h) (Or.inl ⟨by kernel_rfl, by intro u hSu; go_simp⟩) hr ?_
  simp only [Act.put, List.setIfInBounds_toArray, List.set_cons_zero, List.set_cons_succ]
  refine take_to (some 48) (i := 9) (v := .pointer (some ⟨g, i * 9 + 1, none⟩)) rfl rfl (by kernel_rfl) (by kernel_rfl) (by kernel_rfl) (fun _ _ _ h => h) (Or.inl ⟨by kernel_rfl, by intro u hSu; go_simp⟩) hr ?_
  simp only [Act.put, List.setIfInBounds_toArray, List.set_cons_zero, List.set_cons_succ]
  refine take_to (some 49) (i := 10) (v := .agg #[.int .i64 qk, V qg, V qs, V ql, V qp]) rfl rfl (by kernel_rfl) (by kernel_rfl) (by kernel_rfl) (fun _ _ _ h => h) (Or.inl ⟨by kernel_rfl, by intro u hSu; obtain ⟨d0, d1, d2, d3, d4, d5, d6, d7, d8⟩ := hSu.2; go_simp⟩) hr ?_
  simp only [Act.put, List.setIfInBounds_toArray, List.set_cons_zero, List.set_cons_succ]
  refine take_to (some 50) (i := 11) (v := .pointer (some ⟨B, 8, none⟩)) rfl rfl (by kernel_rfl) (by kernel_rfl) (by kernel_rfl) (fun _ _ _ h => h) (Or.inl ⟨by kernel_rfl, by intro u hSu; go_simp⟩) hr ?_
  simp only [Act.put, List.setIfInBounds_toArray, List.set_cons_zero, List.set_cons_succ]
  refine take_to (some 51) (i := 12) (v := .agg #[V rt, V ri, V rc]) rfl rfl (by kernel_rfl) (by kernel_rfl) (by kernel_rfl) (fun _ _ _ h => h) (Or.inl ⟨by kernel_rfl, by intro u hSu; obtain ⟨r0, r1, r2, r3, r4, r5, r6, r7, r8, r9, r10⟩ := hSu.1.rc.c11; go_simp⟩) hr ?_
  simp only [Act.put, List.setIfInBounds_toArray, List.set_cons_zero, List.set_cons_succ]
  refine wpAnyH_ready (rs := [13]) (by kernel_rfl) (by simp) ?_
  refine AllReadyH.cons rfl (fun K hK => ?_) AllReadyH.nil
  go_simp
  refine (HFI.out _).mono ?_
  rintro e w3 ⟨rfl, u3⟩
  replace hU := hU.trans u3
  replace hr := (⟨hr.1.up u3, hr.2.up u3⟩ : _ ∧ _)
  clear u3
  refine hK.out _ _ hr (fun _ => ?_)
  clear hK K
  refine take_to (some 53) (i := 14) (v := .bool false) rfl rfl (by kernel_rfl) (by kernel_rfl) (by kernel_rfl) (fun _ _ _ h => h) (Or.inl ⟨by kernel_rfl, by intro u hSu; go_simp⟩) hr ?_
  simp only [Act.put, List.setIfInBounds_toArray, List.set_cons_zero, List.set_cons_succ]
  refine take_to (some 54) (i := 15) (v := .bool false) rfl rfl (by kernel_rfl) (by kernel_rfl) (by kernel_rfl) (fun _ _ _ h => h) (Or.inl ⟨by kernel_rfl, by intro u hSu; go_simp⟩) hr ?_
  simp only [Act.put, List.setIfInBounds_toArray, List.set_cons_zero, List.set_cons_succ]
  refine take_to (some 55) (i := 16) (v := .bool false) rfl rfl (by kernel_rfl) (by kernel_rfl) (by kernel_rfl) (fun _ _ _ h => h) (Or.inl ⟨by kernel_rfl, by intro u hSu; go_simp⟩) hr ?_
  simp only [Act.put, List.setIfInBounds_toArray, List.set_cons_zero, List.set_cons_succ]
  refine take_to (some 56) (i := 17) (v := .pointer (some ⟨sb, 0, none⟩)) rfl rfl (by kernel_rfl) (by kernel_rfl) (by kernel_rfl) (fun _ _ _ h => h) (Or.inl ⟨by kernel_rfl, by intro u hSu; go_simp⟩) hr ?_
  simp only [Act.put, List.setIfInBounds_toArray, List.set_cons_zero, List.set_cons_succ]
  refine take_to (some 57) (i := 18) (v := .pointer (some ⟨sb, 0, none⟩)) rfl rfl (by kernel_rfl) (by kernel_rfl) (by kernel_rfl) (fun _ _ _ h => h) (Or.inl ⟨by kernel_rfl, by intro u hSu; go_simp⟩) hr ?_
  simp only [Act.put, List.setIfInBounds_toArray, List.set_cons_zero, List.set_cons_succ]
  refine take_to (some 58) (i := 19) (v := .pointer (some ⟨sb, 2, none⟩)) rfl rfl (by kernel_rfl) (by kernel_rfl) (by kernel_rfl) (fun _ _ _ h => h) (Or.inl ⟨by kernel_rfl, by intro u hSu; go_simp⟩) hr ?_
  simp only [Act.put, List.setIfInBounds_toArray, List.set_cons_zero, List.set_cons_succ]
  refine take_to (some 59) (i := 20) (v := .slice (some ⟨g, 0, none⟩) N cp) rfl rfl (by kernel_rfl) (by kernel_rfl) (by kernel_rfl) (fun _ _ _ h => h) (Or.inl ⟨by kernel_rfl, by intro u hSu; obtain ⟨s0, s1, s2⟩ := hSu.1.st.c3; go_simp⟩) hr ?_
  simp only [Act.put, List.setIfInBounds_toArray, List.set_cons_zero, List.set_cons_succ]
  refine take_to (some 60) (i := 21) (v := .int .i64 (i : Int)) rfl rfl (by kernel_rfl) (by kernel_rfl) (by kernel_rfl) (fun _ _ _ h => h) (Or.inl ⟨by kernel_rfl, by intro u hSu; go_simp⟩) hr ?_
  simp only [Act.put, List.setIfInBounds_toArray, List.set_cons_zero, List.set_cons_succ]
  refine take_to (some 61) (i := 22) (v := .pointer (some ⟨g, i * 9, none⟩)) rfl rfl (by kernel_rfl) (by kernel_rfl) (by kernel_rfl) (fun _ _ _ h => h) (Or.inl ⟨by kernel_rfl, by intro u hSu; go_simp⟩) hr ?_
  simp only [Act.put, List.setIfInBounds_toArray, List.set_cons_zero, List.set_cons_succ]
  refine take_to (some 62) (i := 23) (v := .pointer (some ⟨g, i * 9 + 1, none⟩)) rfl rfl (by kernel_rfl) (by kernel_rfl) (by kernel_rfl) (fun _ _ _ h => h) (Or.inl ⟨by kernel_rfl, by intro u hSu; go_simp⟩) hr ?_
  simp only [Act.put, List.setIfInBounds_toArray, List.set_cons_zero, List.set_cons_succ]
  refine take_to (some 63) (i := 24) (v := .agg #[.int .i64 qk, V qg, V qs, V ql, V qp]) rfl rfl (by kernel_rfl) (by kernel_rfl) (by kernel_rfl) (fun _ _ _ h => h) (Or.inl ⟨by kernel_rfl, by intro u hSu; obtain ⟨d0, d1, d2, d3, d4, d5, d6, d7, d8⟩ := hSu.2; go_simp⟩) hr ?_
  simp only [Act.put, List.setIfInBounds_toArray, List.set_cons_zero, List.set_cons_succ]
  refine take_to (some 64) (i := 25) (v := .pointer (some ⟨B, 8, none⟩)) rfl rfl (by kernel_rfl) (by kernel_rfl) (by kernel_rfl) (fun _ _ _ h => h) (Or.inl ⟨by kernel_rfl, by intro u hSu; go_simp⟩) hr ?_
  simp only [Act.put, List.setIfInBounds_toArray, List.set_cons_zero, List.set_cons_succ]
  refine take_to (some 65) (i := 26) (v := .agg #[V rt, V ri, V rc]) rfl rfl (by kernel_rfl) (by kernel_rfl) (by kernel_rfl) (fun _ _ _ h => h) (Or.inl ⟨by kernel_rfl, by intro u hSu; obtain ⟨r0, r1, r2, r3, r4, r5, r6, r7, r8, r9, r10⟩ := hSu.1.rc.c11; go_simp⟩) hr ?_
  simp only [Act.put, List.setIfInBounds_toArray, List.set_cons_zero, List.set_cons_succ]
  refine take_to (some 66) (i := 27) (v := .pointer (some ⟨sb, 0, none⟩)) rfl rfl (by kernel_rfl) (by kernel_rfl) (by kernel_rfl) (fun _ _ _ h => h) (Or.inl ⟨by kernel_rfl, by intro u hSu; go_simp⟩) hr ?_
  simp only [Act.put, List.setIfInBounds_toArray, List.set_cons_zero, List.set_cons_succ]
  refine take_to (some 67) (i := 28) (v := .pointer (some ⟨sb, 0, none⟩)) rfl rfl (by kernel_rfl) (by kernel_rfl) (by kernel_rfl) (fun _ _ _ h => h) (Or.inl ⟨by kernel_rfl, by intro u hSu; go_simp⟩) hr ?_
  simp only [Act.put, List.setIfInBounds_toArray, List.set_cons_zero, List.set_cons_succ]
  refine take_to (some 68) (i := 29) (v := .pointer (some ⟨sb, 2, none⟩)) rfl rfl (by kernel_rfl) (by kernel_rfl) (by kernel_rfl) (fun _ _ _ h => h) (Or.inl ⟨by kernel_rfl, by intro u hSu; go_simp⟩) hr ?_
  simp only [Act.put, List.setIfInBounds_toArray, List.set_cons_zero, List.set_cons_succ]
  refine take_to (some 69) (i := 30) (v := .slice (some ⟨g, 0, none⟩) N cp) rfl rfl (by kernel_rfl) (by kernel_rfl) (by kernel_rfl) (fun _ _ _ h => h) (Or.inl ⟨by kernel_rfl, by intro u hSu; obtain ⟨s0, s1, s2⟩ := hSu.1.st.c3; go_simp⟩) hr ?_
  simp only [Act.put, List.setIfInBounds_toArray, List.set_cons_zero, List.set_cons_succ]
  refine take_to (some 70) (i := 31) (v := .int .i64 (i : Int)) rfl rfl (by kernel_rfl) (by kernel_rfl) (by kernel_rfl) (fun _ _ _ h => h) (Or.inl ⟨by kernel_rfl, by intro u hSu; go_simp⟩) hr ?_
  simp only [Act.put, List.setIfInBounds_toArray, List.set_cons_zero, List.set_cons_succ]
  refine take_to (some 71) (i := 32) (v := .pointer (some ⟨g, i * 9, none⟩)) rfl rfl (by kernel_rfl) (by kernel_rfl) (by kernel_rfl) (fun _ _ _ h => h) (Or.inl ⟨by kernel_rfl, by intro u hSu; go_simp⟩) hr ?_
  simp only [Act.put, List.setIfInBounds_toArray, List.set_cons_zero, List.set_cons_succ]
  refine take_to (some 72) (i := 33) (v := .pointer (some ⟨g, i * 9 + 6, none⟩)) rfl rfl (by kernel_rfl) (by kernel_rfl) (by kernel_rfl) (fun _ _ _ h => h) (Or.inl ⟨by kernel_rfl, by intro u hSu; go_simp⟩) hr ?_
  simp only [Act.put, List.setIfInBounds_toArray, List.set_cons_zero, List.set_cons_succ]
  refine take_to (some 73) (i := 34) (v := .agg #[V qt, V qi, V qc]) rfl rfl (by kernel_rfl) (by kernel_rfl) (by kernel_rfl) (fun _ _ _ h => h) (Or.inl ⟨by kernel_rfl, by intro u hSu; obtain ⟨d0, d1, d2, d3, d4, d5, d6, d7, d8⟩ := hSu.2; go_simp⟩) hr ?_
  simp only [Act.put, List.setIfInBounds_toArray, List.set_cons_zero, List.set_cons_succ]
  refine wpAnyH_ready (rs := [35]) (by kernel_rfl) (by simp) ?_
  refine AllReadyH.cons rfl (fun K hK => ?_) AllReadyH.nil
  go_simp
  refine (HCO.out _).mono ?_
  rintro e w4 ⟨rfl, u3⟩
  replace hU := hU.trans u3
  replace hr := (⟨hr.1.up u3, hr.2.up u3⟩ : _ ∧ _)
  clear u3
  refine hK.out _ _ hr (fun _ => ?_)
  clear hK K
  refine take_to (some 75) (i := 36) (v := .bool true) rfl rfl (by kernel_rfl) (by kernel_rfl) (by kernel_rfl) (fun _ _ _ h => h) (Or.inl ⟨by kernel_rfl, by intro u hSu; go_simp⟩) hr ?_
  simp only [Act.put, List.setIfInBounds_toArray, List.set_cons_zero, List.set_cons_succ]
  refine take_to (some 76) (i := 37) (v := .bool true) rfl rfl (by kernel_rfl) (by kernel_rfl) (by kernel_rfl) (fun _ _ _ h => h) (Or.inl ⟨by kernel_rfl, by intro u hSu; go_simp⟩) hr ?_
  simp only [Act.put, List.setIfInBounds_toArray, List.set_cons_zero, List.set_cons_succ]
  refine wpAnyH_done (by kernel_rfl) ?_ _
  go_wp2
  go_ret
  exact ⟨rfl, hU⟩

set_option maxRecDepth 20000 in
set_option maxHeartbeats 6400000 in
theorem rstep_ceil (sb l f n N cp i : Nat) (g : Nat) (fl : Nat) (S : ByteArray) (pk : Int) (rg rs rl rp rt ri rc : Nat) (w : World) (hb : Box w sb #[V l, V f, .slice (some ⟨g, 0, none⟩) N cp])
    (hV : ∀ u, Calls Tryd.prog 38 #[.agg #[.int .i64 3, V fl, .string S, .int .i64 pk, V rg, V rs, V rl, V rp, V rt, V ri, V rc]] u fun e w' => e = .returned (.bool true) ∧ Up u w') (hlt : l < 4611686018427387904) (hne : n = l + 1) (hi : i ≤ N) (hN : N ≤ 4096) (hF : ∀ u, Up w u → Calls Tryd.prog 10 #[.agg #[V l, V f, .slice (some ⟨g, 0, none⟩) N cp], .string S] u fun e w' => e = .returned (.tuple #[.int .i64 (i : Int), .bool true]) ∧ Up u w') (hin : i < N) (xk : ByteArray) (qk : Int) (qg qs ql qp qt qi qc : Nat) (hat : EntAt w g (i * 9) (xk, ⟨qk, qg, qs, ql, qp⟩, ⟨qt, qi, qc⟩)) (hFi : ∀ u, Calls Tryd.prog 23 #[Pv qk qg qs ql qp, Lv rt ri rc] u fun e w' => e = .returned (.bool true) ∧ Up u w') (hCo : ∀ u, Calls Tryd.prog 39 #[Pv qk qg qs ql qp, Lv rt ri rc, Lv qt qi qc] u fun e w' => e = .returned (.bool true) ∧ Up u w') (base : Nat) (xs ys : List Ent) (ho : OwnE w base (.slice (some ⟨g, 0, none⟩) N cp) xs) (hlen : xs.length = N) (hbase : base ≤ w.heap.size) (hys : ∀ h : i < xs.length, xs.set i (xs[i].1, xs[i].2.1, ⟨rt, ri, rc⟩) = ys) :
    Calls Tryd.prog 31 #[.pointer (some ⟨sb, 0, none⟩), V n, .agg #[.int .i64 3, V fl, .string S, .int .i64 pk, V rg, V rs, V rl, V rp, V rt, V ri, V rc]] w fun e w' => e = .returned (.int .i64 0) ∧ ∃ v', Box w' sb #[V n, V (max f fl), v'] ∧ OwnE w' base v' (ys) ∧ Touch w w' (Rb sb base w.heap.size) := by
  have HIN : Hid (i < N) := hin
  have HAT : Hid (EntAt w g (i * 9) (xk, ⟨qk, qg, qs, ql, qp⟩, ⟨qt, qi, qc⟩)) := hat
  have HFI : Hid (∀ u, Calls Tryd.prog 23 #[Pv qk qg qs ql qp, Lv rt ri rc] u fun e w' => e = .returned (.bool true) ∧ Up u w') := hFi
  have HCO : Hid (∀ u, Calls Tryd.prog 39 #[Pv qk qg qs ql qp, Lv rt ri rc, Lv qt qi qc] u fun e w' => e = .returned (.bool true) ∧ Up u w') := hCo
  clear hCo
  clear hin hat hFi
  have HO : Hid (OwnE w base (.slice (some ⟨g, 0, none⟩) N cp) xs ∧ i < xs.length ∧ True ∧ base ≤ w.heap.size ∧ sb < w.heap.size ∧ ∀ h : i < xs.length, xs.set i (xs[i].1, xs[i].2.1, ⟨rt, ri, rc⟩) = ys) := ⟨ho, by have := HIN.out; omega, trivial, hbase, hb.lt, hys⟩
  clear ho hlen hbase hys
  have e1 : IntKind.u64.wrap ((l : Int) + 1) = (l : Int) + 1 := by rw [IntKind.wrap_u64]; omega
  have hq3 : ¬ (4611686018427387904 : Int) ≤ (l : Int) := by omega
  have hq4 : decide ((4611686018427387904 : Int) ≤ (l : Int)) = false := decide_eq_false hq3
  have hq2 : ((n : Int) != (l : Int) + 1) = false := by rw [hne]; simp
  have HF : Hid (∀ u, Up w u → Calls Tryd.prog 10 #[.agg #[V l, V f, .slice (some ⟨g, 0, none⟩) N cp], .string S] u fun e w' => e = .returned (.tuple #[.int .i64 (i : Int), .bool true]) ∧ Up u w') := hF
  have hN1 : (N : Int) ≤ 4096 := by omega
  have hi1 : (i : Int) ≤ (N : Int) := by omega
  have HNE : Hid (n = l + 1) := hne
  clear hlt hne hF
  have HV : Hid (∀ u, Calls Tryd.prog 38 #[.agg #[.int .i64 3, V fl, .string S, .int .i64 pk, V rg, V rs, V rl, V rp, V rt, V ri, V rc]] u fun e w' => e = .returned (.bool true) ∧ Up u w') := hV
  have b0 : Box (w.alloc (.cells #[.int .i64 3, V fl, .string S, .int .i64 pk, V rg, V rs, V rl, V rp, V rt, V ri, V rc] 39)) w.heap.size #[.int .i64 3, V fl, .string S, .int .i64 pk, V rg, V rs, V rl, V rp, V rt, V ri, V rc] := Box.new _ _ _
  have u0 : Up w (w.alloc (.cells #[.int .i64 3, V fl, .string S, .int .i64 pk, V rg, V rs, V rl, V rp, V rt, V ri, V rc] 39)) := Up.alloc _ _
  have b1 := hb.up u0
  obtain ⟨B, hB⟩ : ∃ B, w.heap.size = B := ⟨_, rfl⟩
  have HB : Hid (w.heap.size = B) := hB
  rw [hB] at b0
  clear hV hb
  go_enter Tryd.func31, Tryd.ntmps31
  go_upto_region 1 with fail
  clear hB
  generalize w.alloc (.cells #[.int .i64 3, V fl, .string S, .int .i64 pk, V rg, V rs, V rl, V rp, V rt, V ri, V rc] 39) = w0 at *
  obtain ⟨r0, r1, r2, r3, r4, r5, r6, r7, r8, r9, r10⟩ := b0.c11
  go_wp2_with fail
  refine (HV.out _).mono ?_
  rintro e w1 ⟨rfl, u1⟩
  have hU := u0.trans u1
  replace b0 := b0.up u1
  replace b1 := b1.up u1
  clear r0 r1 r2 r3 r4 r5 r6 r7 r8 r9 r10 u0 u1 HV
  obtain ⟨r0, r1, r2, r3, r4, r5, r6, r7, r8, r9, r10⟩ := b0.c11
  obtain ⟨s0, s1, s2⟩ := b1.c3
  go_upto_region 5 with fail
  clear r0 r1 r2 r3 r4 r5 r6 r7 r8 r9 r10 s0 s1 s2 hq2 hq3 hq4 e1
  replace hU := hU.trans (Up.drew w1)
  have hs : Sg sb B l f (.slice (some ⟨g, 0, none⟩) N cp) #[.int .i64 3, V fl, .string S, .int .i64 pk, V rg, V rs, V rl, V rp, V rt, V ri, V rc] w w1.drew := ⟨b1.up (Up.drew w1), b0.up (Up.drew w1), Touch.of_up hU _⟩
  clear b0 b1
  refine wp_region_held_drew (S := Sg sb B l f (.slice (some ⟨g, 0, none⟩) N cp) #[.int .i64 3, V fl, .string S, .int .i64 pk, V rg, V rs, V rl, V rp, V rt, V ri, V rc] w) (by kernel_rfl) hs (fun hs0 => ?_)
  clear hs0
  generalize w1.drew = wd at *
  refine take_to (some 29) (i := 0) (v := .pointer (some ⟨sb, 0, none⟩)) rfl rfl (by kernel_rfl) (by kernel_rfl) (by kernel_rfl) (fun _ _ _ h => h) (Or.inl ⟨by kernel_rfl, by intro u hSu; go_simp⟩) hs ?_
  simp only [Act.put, List.setIfInBounds_toArray, List.set_cons_zero, List.set_cons_succ]
  refine take_to (some 30) (i := 1) (v := .pointer (some ⟨sb, 0, none⟩)) rfl rfl (by kernel_rfl) (by kernel_rfl) (by kernel_rfl) (fun _ _ _ h => h) (Or.inl ⟨by kernel_rfl, by intro u hSu; go_simp⟩) hs ?_
  simp only [Act.put, List.setIfInBounds_toArray, List.set_cons_zero, List.set_cons_succ]
  refine take_to (some 31) (i := 2) (v := .agg #[V l, V f, .slice (some ⟨g, 0, none⟩) N cp]) rfl rfl (by kernel_rfl) (by kernel_rfl) (by kernel_rfl) (fun _ _ _ h => h) (Or.inl ⟨by kernel_rfl, by intro u hSu; obtain ⟨s0, s1, s2⟩ := hSu.st.c3; go_simp⟩) hs ?_
  simp only [Act.put, List.setIfInBounds_toArray, List.set_cons_zero, List.set_cons_succ]
  refine take_to (some 32) (i := 3) (v := .pointer (some ⟨B, 2, none⟩)) rfl rfl (by kernel_rfl) (by kernel_rfl) (by kernel_rfl) (fun _ _ _ h => h) (Or.inl ⟨by kernel_rfl, by intro u hSu; go_simp⟩) hs ?_
  simp only [Act.put, List.setIfInBounds_toArray, List.set_cons_zero, List.set_cons_succ]
  refine take_to (some 33) (i := 4) (v := .string S) rfl rfl (by kernel_rfl) (by kernel_rfl) (by kernel_rfl) (fun _ _ _ h => h) (Or.inl ⟨by kernel_rfl, by intro u hSu; obtain ⟨r0, r1, r2, r3, r4, r5, r6, r7, r8, r9, r10⟩ := hSu.rc.c11; go_simp⟩) hs ?_
  simp only [Act.put, List.setIfInBounds_toArray, List.set_cons_zero, List.set_cons_succ]
  refine wpAnyH_ready (rs := [5]) (by kernel_rfl) (by simp) ?_
  refine AllReadyH.cons rfl (fun K hK => ?_) AllReadyH.nil
  go_simp
  refine (HF.out _ hU).mono ?_
  rintro e w2 ⟨rfl, u1⟩
  replace hU := hU.trans u1
  replace hs := hs.up u1
  refine hK.out _ _ hs (fun _ => ?_)
  clear hK K
  refine take_to (some 28) (i := 6) (v := .tuple #[.int .i64 (i : Int), .bool true]) rfl rfl (by kernel_rfl) (by kernel_rfl) (by kernel_rfl) (fun _ _ _ h => h) (Or.inl ⟨by kernel_rfl, by intro u hSu; go_simp⟩) hs ?_
  simp only [Act.put, List.setIfInBounds_toArray, List.set_cons_zero, List.set_cons_succ]
  refine take_to (some 35) (i := 7) (v := .int .i64 (i : Int)) rfl rfl (by kernel_rfl) (by kernel_rfl) (by kernel_rfl) (fun _ _ _ h => h) (Or.inl ⟨by kernel_rfl, by intro u hSu; go_simp⟩) hs ?_
  simp only [Act.put, List.setIfInBounds_toArray, List.set_cons_zero, List.set_cons_succ]
  refine take_to (some 36) (i := 8) (v := .bool true) rfl rfl (by kernel_rfl) (by kernel_rfl) (by kernel_rfl) (fun _ _ _ h => h) (Or.inl ⟨by kernel_rfl, by intro u hSu; go_simp⟩) hs ?_
  simp only [Act.put, List.setIfInBounds_toArray, List.set_cons_zero, List.set_cons_succ]
  refine take_to (some 7) (i := 9) (v := .int .i64 (i : Int)) rfl rfl (by kernel_rfl) (by kernel_rfl) (by kernel_rfl) (fun _ _ _ h => h) (Or.inl ⟨by kernel_rfl, by intro u hSu; go_simp⟩) hs ?_
  simp only [Act.put, List.setIfInBounds_toArray, List.set_cons_zero, List.set_cons_succ]
  refine take_to (some 8) (i := 10) (v := .bool true) rfl rfl (by kernel_rfl) (by kernel_rfl) (by kernel_rfl) (fun _ _ _ h => h) (Or.inl ⟨by kernel_rfl, by intro u hSu; go_simp⟩) hs ?_
  simp only [Act.put, List.setIfInBounds_toArray, List.set_cons_zero, List.set_cons_succ]
  refine wpAnyH_done (by kernel_rfl) ?_ _
  clear HF
  obtain ⟨r0, r1, r2, r3, r4, r5, r6, r7, r8, r9, r10⟩ := hs.rc.c11
  obtain ⟨s0, s1, s2⟩ := hs.st.c3
  have hin1 : (i : Int) < (N : Int) := by have := HIN.out; omega
  go_upto_region 7 with fail
  clear r0 r1 r2 r3 r4 r5 r6 r7 r8 r9 r10 s0 s1 s2
  replace hU := hU.trans (Up.drew w2)
  have hr : (fun u => Sg sb B l f (.slice (some ⟨g, 0, none⟩) N cp) #[.int .i64 3, V fl, .string S, .int .i64 pk, V rg, V rs, V rl, V rp, V rt, V ri, V rc] w u ∧ EntAt u g (i * 9) (xk, ⟨qk, qg, qs, ql, qp⟩, ⟨qt, qi, qc⟩)) w2.drew := ⟨hs.up (Up.drew w2), HAT.out.up hU⟩
  clear hs
  refine wp_region_held_drew (S := fun u => Sg sb B l f (.slice (some ⟨g, 0, none⟩) N cp) #[.int .i64 3, V fl, .string S, .int .i64 pk, V rg, V rs, V rl, V rp, V rt, V ri, V rc] w u ∧ EntAt u g (i * 9) (xk, ⟨qk, qg, qs, ql, qp⟩, ⟨qt, qi, qc⟩)) (by kernel_rfl) hr (fun hs0 => ?_)
  clear hs0
  generalize w2.drew = wd7 at *
  refine take_to (some 39) (i := 0) (v := .bool true) rfl rfl (by kernel_rfl) (by kernel_rfl) (by kernel_rfl) (fun _ _ _ h => h) (Or.inl ⟨by kernel_rfl, by intro u hSu; go_simp⟩) hr ?_
  simp only [Act.put, List.setIfInBounds_toArray, List.set_cons_zero, List.set_cons_succ]
  refine take_to (some 40) (i := 1) (v := .bool false) rfl rfl (by kernel_rfl) (by kernel_rfl) (by kernel_rfl) (fun _ _ _ h => h) (Or.inl ⟨by kernel_rfl, by intro u hSu; go_simp⟩) hr ?_
  simp only [Act.put, List.setIfInBounds_toArray, List.set_cons_zero, List.set_cons_succ]
  refine take_to (some 41) (i := 2) (v := .bool false) rfl rfl (by kernel_rfl) (by kernel_rfl) (by kernel_rfl) (fun _ _ _ h => h) (Or.inl ⟨by kernel_rfl, by intro u hSu; go_simp⟩) hr ?_
  simp only [Act.put, List.setIfInBounds_toArray, List.set_cons_zero, List.set_cons_succ]
  refine take_to (some 42) (i := 3) (v := .pointer (some ⟨sb, 0, none⟩)) rfl rfl (by kernel_rfl) (by kernel_rfl) (by kernel_rfl) (fun _ _ _ h => h) (Or.inl ⟨by kernel_rfl, by intro u hSu; go_simp⟩) hr ?_
  simp only [Act.put, List.setIfInBounds_toArray, List.set_cons_zero, List.set_cons_succ]
  refine take_to (some 43) (i := 4) (v := .pointer (some ⟨sb, 0, none⟩)) rfl rfl (by kernel_rfl) (by kernel_rfl) (by kernel_rfl) (fun _ _ _ h => h) (Or.inl ⟨by kernel_rfl, by intro u hSu; go_simp⟩) hr ?_
  simp only [Act.put, List.setIfInBounds_toArray, List.set_cons_zero, List.set_cons_succ]
  refine take_to (some 44) (i := 5) (v := .pointer (some ⟨sb, 2, none⟩)) rfl rfl (by kernel_rfl) (by kernel_rfl) (by kernel_rfl) (fun _ _ _ h => h) (Or.inl ⟨by kernel_rfl, by intro u hSu; go_simp⟩) hr ?_
  simp only [Act.put, List.setIfInBounds_toArray, List.set_cons_zero, List.set_cons_succ]
  refine take_to (some 45) (i := 6) (v := .slice (some ⟨g, 0, none⟩) N cp) rfl rfl (by kernel_rfl) (by kernel_rfl) (by kernel_rfl) (fun _ _ _ h => h) (Or.inl ⟨by kernel_rfl, by intro u hSu; obtain ⟨s0, s1, s2⟩ := hSu.1.st.c3; go_simp⟩) hr ?_
  simp only [Act.put, List.setIfInBounds_toArray, List.set_cons_zero, List.set_cons_succ]
  refine take_to (some 46) (i := 7) (v := .int .i64 (i : Int)) rfl rfl (by kernel_rfl) (by kernel_rfl) (by kernel_rfl) (fun _ _ _ h => h) (Or.inl ⟨by kernel_rfl, by intro u hSu; go_simp⟩) hr ?_
  simp only [Act.put, List.setIfInBounds_toArray, List.set_cons_zero, List.set_cons_succ]
  refine take_to (some 47) (i := 8) (v := .pointer (some ⟨g, i * 9, none⟩)) rfl rfl (by kernel_rfl) (by kernel_rfl) (by kernel_rfl) (fun _ _ _ h => h) (Or.inl ⟨by kernel_rfl, by intro u hSu; go_simp⟩) hr ?_
  simp only [Act.put, List.setIfInBounds_toArray, List.set_cons_zero, List.set_cons_succ]
  refine take_to (some 48) (i := 9) (v := .pointer (some ⟨g, i * 9 + 1, none⟩)) rfl rfl (by kernel_rfl) (by kernel_rfl) (by kernel_rfl) (fun _ _ _ h => h) (Or.inl ⟨by kernel_rfl, by intro u hSu; go_simp⟩) hr ?_
  simp only [Act.put, List.setIfInBounds_toArray, List.set_cons_zero, List.set_cons_succ]
  refine take_to (some 49) (i := 10) (v := .agg #[.int .i64 qk, V qg, V qs, V ql, V qp]) rfl rfl (by kernel_rfl) (by kernel_rfl) (by kernel_rfl) (fun _ _ _ h => h) (Or.inl ⟨by kernel_rfl, by intro u hSu; obtain ⟨d0, d1, d2, d3, d4, d5, d6, d7, d8⟩ := hSu.2; go_simp⟩) hr ?_
  simp only [Act.put, List.setIfInBounds_toArray, List.set_cons_zero, List.set_cons_succ]
  refine take_to (some 50) (i := 11) (v := .pointer (some ⟨B, 8, none⟩)) rfl rfl (by kernel_rfl) (by kernel_rfl) (by kernel_rfl) (fun _ _ _ h => h) (Or.inl ⟨by kernel_rfl, by intro u hSu; go_simp⟩) hr ?_
  simp only [Act.put, List.setIfInBounds_toArray, List.set_cons_zero, List.set_cons_succ]
  refine take_to (some 51) (i := 12) (v := .agg #[V rt, V ri, V rc]) rfl rfl (by kernel_rfl) (by kernel_rfl) (by kernel_rfl) (fun _ _ _ h => h) (Or.inl ⟨by kernel_rfl, by intro u hSu; obtain ⟨r0, r1, r2, r3, r4, r5, r6, r7, r8, r9, r10⟩ := hSu.1.rc.c11; go_simp⟩) hr ?_
  simp only [Act.put, List.setIfInBounds_toArray, List.set_cons_zero, List.set_cons_succ]
  refine wpAnyH_ready (rs := [13]) (by kernel_rfl) (by simp) ?_
  refine AllReadyH.cons rfl (fun K hK => ?_) AllReadyH.nil
  go_simp
  refine (HFI.out _).mono ?_
  rintro e w3 ⟨rfl, u3⟩
  replace hU := hU.trans u3
  replace hr := (⟨hr.1.up u3, hr.2.up u3⟩ : _ ∧ _)
  clear u3
  refine hK.out _ _ hr (fun _ => ?_)
  clear hK K
  refine take_to (some 53) (i := 14) (v := .bool false) rfl rfl (by kernel_rfl) (by kernel_rfl) (by kernel_rfl) (fun _ _ _ h => h) (Or.inl ⟨by kernel_rfl, by intro u hSu; go_simp⟩) hr ?_
  simp only [Act.put, List.setIfInBounds_toArray, List.set_cons_zero, List.set_cons_succ]
  refine take_to (some 54) (i := 15) (v := .bool false) rfl rfl (by kernel_rfl) (by kernel_rfl) (by kernel_rfl) (fun _ _ _ h => h) (Or.inl ⟨by kernel_rfl, by intro u hSu; go_simp⟩) hr ?_
  simp only [Act.put, List.setIfInBounds_toArray, List.set_cons_zero, List.set_cons_succ]
  refine take_to (some 55) (i := 16) (v := .bool false) rfl rfl (by kernel_rfl) (by kernel_rfl) (by kernel_rfl) (fun _ _ _ h => h) (Or.inl ⟨by kernel_rfl, by intro u hSu; go_simp⟩) hr ?_
  simp only [Act.put, List.setIfInBounds_toArray, List.set_cons_zero, List.set_cons_succ]
  refine take_to (some 56) (i := 17) (v := .pointer (some ⟨sb, 0, none⟩)) rfl rfl (by kernel_rfl) (by kernel_rfl) (by kernel_rfl) (fun _ _ _ h => h) (Or.inl ⟨by kernel_rfl, by intro u hSu; go_simp⟩) hr ?_
  simp only [Act.put, List.setIfInBounds_toArray, List.set_cons_zero, List.set_cons_succ]
  refine take_to (some 57) (i := 18) (v := .pointer (some ⟨sb, 0, none⟩)) rfl rfl (by kernel_rfl) (by kernel_rfl) (by kernel_rfl) (fun _ _ _ h => h) (Or.inl ⟨by kernel_rfl, by intro u hSu; go_simp⟩) hr ?_
  simp only [Act.put, List.setIfInBounds_toArray, List.set_cons_zero, List.set_cons_succ]
  refine take_to (some 58) (i := 19) (v := .pointer (some ⟨sb, 2, none⟩)) rfl rfl (by kernel_rfl) (by kernel_rfl) (by kernel_rfl) (fun _ _ _ h => h) (Or.inl ⟨by kernel_rfl, by intro u hSu; go_simp⟩) hr ?_
  simp only [Act.put, List.setIfInBounds_toArray, List.set_cons_zero, List.set_cons_succ]
  refine take_to (some 59) (i := 20) (v := .slice (some ⟨g, 0, none⟩) N cp) rfl rfl (by kernel_rfl) (by kernel_rfl) (by kernel_rfl) (fun _ _ _ h => h) (Or.inl ⟨by kernel_rfl, by intro u hSu; obtain ⟨s0, s1, s2⟩ := hSu.1.st.c3; go_simp⟩) hr ?_
  simp only [Act.put, List.setIfInBounds_toArray, List.set_cons_zero, List.set_cons_succ]
  refine take_to (some 60) (i := 21) (v := .int .i64 (i : Int)) rfl rfl (by kernel_rfl) (by kernel_rfl) (by kernel_rfl) (fun _ _ _ h => h) (Or.inl ⟨by kernel_rfl, by intro u hSu; go_simp⟩) hr ?_
  simp only [Act.put, List.setIfInBounds_toArray, List.set_cons_zero, List.set_cons_succ]
  refine take_to (some 61) (i := 22) (v := .pointer (some ⟨g, i * 9, none⟩)) rfl rfl (by kernel_rfl) (by kernel_rfl) (by kernel_rfl) (fun _ _ _ h => h) (Or.inl ⟨by kernel_rfl, by intro u hSu; go_simp⟩) hr ?_
  simp only [Act.put, List.setIfInBounds_toArray, List.set_cons_zero, List.set_cons_succ]
  refine take_to (some 62) (i := 23) (v := .pointer (some ⟨g, i * 9 + 1, none⟩)) rfl rfl (by kernel_rfl) (by kernel_rfl) (by kernel_rfl) (fun _ _ _ h => h) (Or.inl ⟨by kernel_rfl, by intro u hSu; go_simp⟩) hr ?_
  simp only [Act.put, List.setIfInBounds_toArray, List.set_cons_zero, List.set_cons_succ]
  refine take_to (some 63) (i := 24) (v := .agg #[.int .i64 qk, V qg, V qs, V ql, V qp]) rfl rfl (by kernel_rfl) (by kernel_rfl) (by kernel_rfl) (fun _ _ _ h => h) (Or.inl ⟨by kernel_rfl, by intro u hSu; obtain ⟨d0, d1, d2, d3, d4, d5, d6, d7, d8⟩ := hSu.2; go_simp⟩) hr ?_
  simp only [Act.put, List.setIfInBounds_toArray, List.set_cons_zero, List.set_cons_succ]
  refine take_to (some 64) (i := 25) (v := .pointer (some ⟨B, 8, none⟩)) rfl rfl (by kernel_rfl) (by kernel_rfl) (by kernel_rfl) (fun _ _ _ h => h) (Or.inl ⟨by kernel_rfl, by intro u hSu; go_simp⟩) hr ?_
  simp only [Act.put, List.setIfInBounds_toArray, List.set_cons_zero, List.set_cons_succ]
  refine take_to (some 65) (i := 26) (v := .agg #[V rt, V ri, V rc]) rfl rfl (by kernel_rfl) (by kernel_rfl) (by kernel_rfl) (fun _ _ _ h => h) (Or.inl ⟨by kernel_rfl, by intro u hSu; obtain ⟨r0, r1, r2, r3, r4, r5, r6, r7, r8, r9, r10⟩ := hSu.1.rc.c11; go_simp⟩) hr ?_
  simp only [Act.put, List.setIfInBounds_toArray, List.set_cons_zero, List.set_cons_succ]
  refine take_to (some 66) (i := 27) (v := .pointer (some ⟨sb, 0, none⟩)) rfl rfl (by kernel_rfl) (by kernel_rfl) (by kernel_rfl) (fun _ _ _ h => h) (Or.inl ⟨by kernel_rfl, by intro u hSu; go_simp⟩) hr ?_
  simp only [Act.put, List.setIfInBounds_toArray, List.set_cons_zero, List.set_cons_succ]
  refine take_to (some 67) (i := 28) (v := .pointer (some ⟨sb, 0, none⟩)) rfl rfl (by kernel_rfl) (by kernel_rfl) (by kernel_rfl) (fun _ _ _ h => h) (Or.inl ⟨by kernel_rfl, by intro u hSu; go_simp⟩) hr ?_
  simp only [Act.put, List.setIfInBounds_toArray, List.set_cons_zero, List.set_cons_succ]
  refine take_to (some 68) (i := 29) (v := .pointer (some ⟨sb, 2, none⟩)) rfl rfl (by kernel_rfl) (by kernel_rfl) (by kernel_rfl) (fun _ _ _ h => h) (Or.inl ⟨by kernel_rfl, by intro u hSu; go_simp⟩) hr ?_
  simp only [Act.put, List.setIfInBounds_toArray, List.set_cons_zero, List.set_cons_succ]
  refine take_to (some 69) (i := 30) (v := .slice (some ⟨g, 0, none⟩) N cp) rfl rfl (by kernel_rfl) (by kernel_rfl) (by kernel_rfl) (fun _ _ _ h => h) (Or.inl ⟨by kernel_rfl, by intro u hSu; obtain ⟨s0, s1, s2⟩ := hSu.1.st.c3; go_simp⟩) hr ?_
  simp only [Act.put, List.setIfInBounds_toArray, List.set_cons_zero, List.set_cons_succ]
  refine take_to (some 70) (i := 31) (v := .int .i64 (i : Int)) rfl rfl (by kernel_rfl) (by kernel_rfl) (by kernel_rfl) (fun _ _ _ h => h) (Or.inl ⟨by kernel_rfl, by intro u hSu; go_simp⟩) hr ?_
  simp only [Act.put, List.setIfInBounds_toArray, List.set_cons_zero, List.set_cons_succ]
  refine take_to (some 71) (i := 32) (v := .pointer (some ⟨g, i * 9, none⟩)) rfl rfl (by kernel_rfl) (by kernel_rfl) (by kernel_rfl) (fun _ _ _ h => h) (Or.inl ⟨by kernel_rfl, by intro u hSu; go_simp⟩) hr ?_
  simp only [Act.put, List.setIfInBounds_toArray, List.set_cons_zero, List.set_cons_succ]
  refine take_to (some 72) (i := 33) (v := .pointer (some ⟨g, i * 9 + 6, none⟩)) rfl rfl (by kernel_rfl) (by kernel_rfl) (by kernel_rfl) (fun _ _ _ h => h) (Or.inl ⟨by kernel_rfl, by intro u hSu; go_simp⟩) hr ?_
  simp only [Act.put, List.setIfInBounds_toArray, List.set_cons_zero, List.set_cons_succ]
  refine take_to (some 73) (i := 34) (v := .agg #[V qt, V qi, V qc]) rfl rfl (by kernel_rfl) (by kernel_rfl) (by kernel_rfl) (fun _ _ _ h => h) (Or.inl ⟨by kernel_rfl, by intro u hSu; obtain ⟨d0, d1, d2, d3, d4, d5, d6, d7, d8⟩ := hSu.2; go_simp⟩) hr ?_
  simp only [Act.put, List.setIfInBounds_toArray, List.set_cons_zero, List.set_cons_succ]
  refine wpAnyH_ready (rs := [35]) (by kernel_rfl) (by simp) ?_
  refine AllReadyH.cons rfl (fun K hK => ?_) AllReadyH.nil
  go_simp
  refine (HCO.out _).mono ?_
  rintro e w4 ⟨rfl, u3⟩
  replace hU := hU.trans u3
  replace hr := (⟨hr.1.up u3, hr.2.up u3⟩ : _ ∧ _)
  clear u3
  refine hK.out _ _ hr (fun _ => ?_)
  clear hK K
  refine take_to (some 75) (i := 36) (v := .bool false) rfl rfl (by kernel_rfl) (by kernel_rfl) (by kernel_rfl) (fun _ _ _ h => h) (Or.inl ⟨by kernel_rfl, by intro u hSu; go_simp⟩) hr ?_
  simp only [Act.put, List.setIfInBounds_toArray, List.set_cons_zero, List.set_cons_succ]
  refine take_to (some 76) (i := 37) (v := .bool false) rfl rfl (by kernel_rfl) (by kernel_rfl) (by kernel_rfl) (fun _ _ _ h => h) (Or.inl ⟨by kernel_rfl, by intro u hSu; go_simp⟩) hr ?_
  simp only [Act.put, List.setIfInBounds_toArray, List.set_cons_zero, List.set_cons_succ]
  refine wpAnyH_done (by kernel_rfl) ?_ _
  have hs := hr.1
  have hX : Fn sb B base l f (.slice (some ⟨g, 0, none⟩) N cp) #[.int .i64 3, V fl, .string S, .int .i64 pk, V rg, V rs, V rl, V rp, V rt, V ri, V rc] xs w w4 := ⟨hs.st, hs.rc, HO.out.1.up hU, hs.tt.mono (fun k hk => mem_Rb (.inr (HO.out.1.ge k hk).1)), by have := HB.out; have := HO.out.2.2.2.2.1; omega, rfl⟩
  have hat0 := hr.2
  clear hr hs hU
  go_upto_region 9 with fail
  replace hX := hX.up (Up.drew w4)
  replace hat0 := hat0.up (Up.drew w4)
  have hr : (fun u => Box u sb #[V l, V f, .slice (some ⟨g, 0, none⟩) N cp] ∧ Box u B #[.int .i64 3, V fl, .string S, .int .i64 pk, V rg, V rs, V rl, V rp, V rt, V ri, V rc]) w4.drew := ⟨hX.st, hX.rc⟩
  refine wp_region_held_drew (S := fun u => Box u sb #[V l, V f, .slice (some ⟨g, 0, none⟩) N cp] ∧ Box u B #[.int .i64 3, V fl, .string S, .int .i64 pk, V rg, V rs, V rl, V rp, V rt, V ri, V rc]) (by kernel_rfl) hr (fun hs0 => ?_)
  clear hs0
  generalize w4.drew = wd at *
  refine take_to (some 77) (i := 0) (v := .pointer (some ⟨sb, 0, none⟩)) rfl rfl (by kernel_rfl) (by kernel_rfl) (by kernel_rfl) (fun _ _ _ h => h) (Or.inl ⟨by kernel_rfl, by intro u hSu; go_simp⟩) hr ?_
  simp only [Act.put, List.setIfInBounds_toArray, List.set_cons_zero, List.set_cons_succ]
  refine take_to (some 78) (i := 1) (v := .pointer (some ⟨sb, 0, none⟩)) rfl rfl (by kernel_rfl) (by kernel_rfl) (by kernel_rfl) (fun _ _ _ h => h) (Or.inl ⟨by kernel_rfl, by intro u hSu; go_simp⟩) hr ?_
  simp only [Act.put, List.setIfInBounds_toArray, List.set_cons_zero, List.set_cons_succ]
  refine take_to (some 79) (i := 2) (v := .pointer (some ⟨sb, 2, none⟩)) rfl rfl (by kernel_rfl) (by kernel_rfl) (by kernel_rfl) (fun _ _ _ h => h) (Or.inl ⟨by kernel_rfl, by intro u hSu; go_simp⟩) hr ?_
  simp only [Act.put, List.setIfInBounds_toArray, List.set_cons_zero, List.set_cons_succ]
  refine take_to (some 80) (i := 3) (v := .slice (some ⟨g, 0, none⟩) N cp) rfl rfl (by kernel_rfl) (by kernel_rfl) (by kernel_rfl) (fun _ _ _ h => h) (Or.inl ⟨by kernel_rfl, by intro u hSu; obtain ⟨s0, s1, s2⟩ := hSu.1.c3; go_simp⟩) hr ?_
  simp only [Act.put, List.setIfInBounds_toArray, List.set_cons_zero, List.set_cons_succ]
  refine take_to (some 81) (i := 4) (v := .int .i64 (i : Int)) rfl rfl (by kernel_rfl) (by kernel_rfl) (by kernel_rfl) (fun _ _ _ h => h) (Or.inl ⟨by kernel_rfl, by intro u hSu; go_simp⟩) hr ?_
  simp only [Act.put, List.setIfInBounds_toArray, List.set_cons_zero, List.set_cons_succ]
  refine take_to (some 82) (i := 5) (v := .pointer (some ⟨B, 8, none⟩)) rfl rfl (by kernel_rfl) (by kernel_rfl) (by kernel_rfl) (fun _ _ _ h => h) (Or.inl ⟨by kernel_rfl, by intro u hSu; go_simp⟩) hr ?_
  simp only [Act.put, List.setIfInBounds_toArray, List.set_cons_zero, List.set_cons_succ]
  refine take_to (some 83) (i := 6) (v := .agg #[V rt, V ri, V rc]) rfl rfl (by kernel_rfl) (by kernel_rfl) (by kernel_rfl) (fun _ _ _ h => h) (Or.inl ⟨by kernel_rfl, by intro u hSu; obtain ⟨r0, r1, r2, r3, r4, r5, r6, r7, r8, r9, r10⟩ := hSu.2.c11; go_simp⟩) hr ?_
  simp only [Act.put, List.setIfInBounds_toArray, List.set_cons_zero, List.set_cons_succ]
  refine take_to (some 84) (i := 7) (v := .pointer (some ⟨g, i * 9, none⟩)) rfl rfl (by kernel_rfl) (by kernel_rfl) (by kernel_rfl) (fun _ _ _ h => h) (Or.inl ⟨by kernel_rfl, by intro u hSu; go_simp⟩) hr ?_
  simp only [Act.put, List.setIfInBounds_toArray, List.set_cons_zero, List.set_cons_succ]
  refine take_to (some 85) (i := 8) (v := .pointer (some ⟨g, i * 9 + 6, none⟩)) rfl rfl (by kernel_rfl) (by kernel_rfl) (by kernel_rfl) (fun _ _ _ h => h) (Or.inl ⟨by kernel_rfl, by intro u hSu; go_simp⟩) hr ?_
  simp only [Act.put, List.setIfInBounds_toArray, List.set_cons_zero, List.set_cons_succ]
  refine wpAnyH_ready (rs := [9]) (by kernel_rfl) (by simp) ?_
  refine AllReadyH.cons rfl (fun K hK => ?_) AllReadyH.nil
  obtain ⟨d0, d1, d2, d3, d4, d5, d6, d7, d8⟩ := hat0
  have gf : ∀ t, wd.frozen? ⟨g, t, none⟩ = false := fun t => hX.own.frozen
  go_simp
  have hX2 := hX.lev i HO.out.2.1 ⟨rt, ri, rc⟩
  rw [HO.out.2.2.2.2.2] at hX2
  simp only at hX2
  obtain ⟨wz, hwz⟩ : ∃ wz, wd.setCells g (i * 9 + 6) [V rt, V ri, V rc] = wz := ⟨_, rfl⟩
  rw [hwz] at hX2
  generalize hq : World.setCell _ _ _ = wq
  obtain rfl : wq = wz := hq.symm.trans hwz
  refine hK.out _ _ ⟨hX2.st, hX2.rc⟩ (fun _ => ?_)
  clear hK K hq hwz d0 d1 d2 d3 d4 d5 d6 d7 d8 gf hX hr
  have hX := hX2
  clear hX2
  refine wpAnyH_done (by kernel_rfl) ?_ _
  obtain ⟨s0, s1, s2⟩ := hX.st.c3
  have g0 := hX.st.frozen 0
  go_upto_region 28 with fail
  have h2 := hX.cell 0 (V n) (l' := n) (f' := f) rfl
  clear s0 s1 s2 g0 hX
  generalize World.setCell wq ⟨sb, 0, none⟩ (V n) = wy at *
  obtain ⟨s0, s1, s2⟩ := h2.st.c3
  obtain ⟨r0, r1, r2, r3, r4, r5, r6, r7, r8, r9, r10⟩ := h2.rc.c11
  by_cases hgt : (f : Int) < (fl : Int)
  · have hg2 : f < fl := by omega
    have hg3 : decide (f < fl) = true := decide_eq_true hg2
    go_quiet (fail)
    clear s0 s1 s2 r0 r1 r2 r3 r4 r5 r6 r7 r8 r9 r10
    have h3 := h2.up (up_drewN wy nq)
    generalize wy.drewN nq = wz at *
    clear h2
    have HM : Hid (max f fl = fl) := by show _ = _; omega
    clear hgt hg2 hg3
    obtain ⟨s0, s1, s2⟩ := h3.st.c3
    obtain ⟨r0, r1, r2, r3, r4, r5, r6, r7, r8, r9, r10⟩ := h3.rc.c11
    have g1 := h3.st.frozen 1
    have h4 := h3.cell 1 (V fl) (l' := n) (f' := fl) rfl
    clear h3
    go_wp2
    go_ret
    exact ⟨rfl, _, by rw [HM.out]; exact h4.st, h4.own, h4.tt⟩
  · have hg2 : ¬ f < fl := by omega
    have hg3 : decide (f < fl) = false := decide_eq_false hg2
    have hg4 : decide ((f : Int) < (fl : Int)) = false := decide_eq_false hgt
    go_quiet (fail)
    have h3 := h2.up (up_drewN wy nq)
    have HM : Hid (max f fl = f) := by show _ = _; omega
    clear h2 hgt hg2 hg3 hg4 s0 s1 s2 r0 r1 r2 r3 r4 r5 r6 r7 r8 r9 r10
    go_wp2
    go_ret
    exact ⟨rfl, _, by rw [HM.out]; exact h3.st, h3.own, h3.tt⟩
end Go.Proofs.YtdddfapelencoaaDoor
