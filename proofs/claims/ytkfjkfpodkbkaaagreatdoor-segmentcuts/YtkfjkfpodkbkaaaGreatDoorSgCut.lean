/- segment: Cut; an Append to a segment that isn't whole. (Laid by genCut.py.) -/
import Derived.Test.YtkfjkfpodkbkaaaGreatDoorMg42
import Derived.Test.YtkfjkfpodkbkaaaGreatDoorDkTrunc
import Derived.Test.YtkfjkfpodkbkaaaGreatDoorMg11
set_option linter.unusedVariables false
set_option linter.unusedSimpArgs false
namespace Go.Proofs.YtkfjkfpodkbkaaaGreatDoor
open Go Go.RowKit

theorem sg_trunc (nm : Nm) (F : Fil) (n : Nat) (ops ahead : Nat) (parts : Int → Option Int) (cut : Int) (room : Nat) (h : (sgD nm F ops ahead parts cut room).fate = .goes) : (sgD nm F ops ahead parts cut room).trunc 0 n = sgD nm (F.cut n) (ops + 1) ahead parts cut (room + 1) := by
  have e := sg_counted nm F ops ahead parts cut room (by rw [h]; rfl)
  simp only [Dsk.trunc, h, e, sg_at]
theorem SegCut_whole (W00 w : World) (db sb : Nat) (nm : Nm) (next blocks : Nat) (D : Dsk) (Ld : List Nat) (h : SgAt W00 w db sb nm next blocks true false D Ld) :
    Calls Tryz.prog 32 #[.pointer (some ⟨sb, 0, none⟩)] w fun e w' => e = .returned .nilIface ∧ w' = w := by
  have hr := sready_ok sb db nm next blocks true w h.box
  have c4 : w.cell? ⟨sb, 4, none⟩ = some (.bool true) := h.box.cell 4
  clear h
  go_enter Tryz.func32, Tryz.ntmps32
  go_wp2_with fail
  refine hr.mono ?_
  rintro e w1 ⟨rfl, hw⟩
  obtain rfl : w = w1 := hw.symm
  clear hr
  go_wp2
  go_ret
  exact ⟨rfl, rfl⟩
theorem SegAppend_rough (W00 w : World) (db sb : Nat) (nm : Nm) (next blocks : Nat) (D : Dsk) (Ld : List Nat) (ao : Option Addr) (n cap : Nat) (a : Addr) (h : SgAt W00 w db sb nm next blocks false false D Ld) (ha : w.cell? ⟨4, 0, none⟩ = some (E a)) :
    Calls Tryz.prog 18 #[.pointer (some ⟨sb, 0, none⟩), .slice ao n cap] w fun e w' => e = .returned (E a) ∧ w' = w := by
  have hr := sready_ok sb db nm next blocks false w h.box
  have c4 : w.cell? ⟨sb, 4, none⟩ = some (.bool false) := h.box.cell 4
  clear h
  go_enter Tryz.func18, Tryz.ntmps18
  go_wp2_with fail
  refine hr.mono ?_
  rintro e w1 ⟨rfl, hw⟩
  obtain rfl : w = w1 := hw.symm
  clear hr
  go_wp2
  go_ret
  exact ⟨rfl, rfl⟩

set_option maxRecDepth 20000 in
set_option maxHeartbeats 1600000 in
theorem SegCut_ok (W00 w : World) (db sb : Nat) (nm : Nm) (next blocks : Nat) (F : Fil) (ops ahead : Nat) (parts : Int → Option Int) (cut : Int) (room : Nat) (Ld : List Nat) (ad : Nat → Addr) (h : SgAt W00 w db sb nm next blocks false false (sgD nm F ops ahead parts cut room) Ld) (hk : Ks W00 ad)
    (hf : (sgD nm F ops ahead parts cut room).fate = .goes) (hF : F.Ok) (hr1 : 1 ≤ room) (hr2 : ops ≤ room) (hr3 : ahead ≤ ops) (hr4 : room ≤ 100000000) (hsz : F.seen.data.length ≤ 1000000000000) (hbl : 512 * blocks ≤ F.seen.data.length) (hb2 : blocks ≤ 1000000000) (hnm : nm.length ≤ 64) :
    Calls Tryz.prog 32 #[.pointer (some ⟨sb, 0, none⟩)] w fun e w' => ∃ L', e = .returned .nilIface ∧ SgAt W00 w' db sb nm next blocks true false (sgD nm (F.cut (512 * blocks)) (ops + 1) ahead parts cut (room + 1)) L' ∧ (∀ k ∈ L', k ∈ Ld ∨ w.heap.size ≤ k) ∧ Touch w w' (sb :: Ld) := by
  have hdl := h.dsk.lt
  have hap : ∀ u, Up w u → Calls Tryz.prog 72 #[.pointer (some ⟨db, 0, none⟩), Sv nm, .int .i64 ((512 * blocks : Nat) : Int)] u fun e w' => e = .returned .nilIface ∧ ∃ L', DiskAt w' W00.heap.size db (sgD nm (F.cut (512 * blocks)) (ops + 1) ahead parts cut (room + 1)) L' ∧ (∀ k ∈ L', k ∈ Ld ∨ u.heap.size ≤ k) ∧ Touch u w' Ld := fun u uu => by
    refine (DiskTrunc_any W00 db _ Ld u ad nm 0 F (512 * blocks) (h.dsk.up uu) (h.up.trans uu) hk.er rfl (sgD_ok nm F hF ops ahead parts cut room hr1 hr2 hr3) (by show room ≤ _; omega) (sgD_seen _ _ _ _ _ _ _) rfl hF (by unfold CB; omega) (by unfold maxLen; omega) hbl (by omega)).mono ?_
    rintro e w1 ⟨rfl, L', d1, d2, d3⟩
    rw [sg_trunc nm F _ ops ahead parts cut room hf] at d1
    rw [hf]
    exact ⟨rfl, L', d1, d2, d3⟩
  have hr := sready_ok sb db nm next blocks false w h.box
  have c4 : w.cell? ⟨sb, 4, none⟩ = some (.bool false) := h.box.cell 4
  obtain ⟨Z, hZ⟩ : ∃ Z, 512 * blocks = Z := ⟨_, rfl⟩
  have hzo : ∀ u, Calls Tryz.prog 58 #[.int .i64 (blocks : Int)] u fun e w' => e = .returned (.int .i64 (Z : Int)) ∧ w' = u := fun u => by rw [← hZ]; exact sizeOf_any blocks u hb2
  rw [hZ] at hap
  have HA : Hid (∀ u, Up w u → Calls Tryz.prog 72 #[.pointer (some ⟨db, 0, none⟩), Sv nm, .int .i64 (Z : Int)] u fun e w' => e = .returned .nilIface ∧ ∃ L', DiskAt w' W00.heap.size db (sgD nm (F.cut Z) (ops + 1) ahead parts cut (room + 1)) L' ∧ (∀ k ∈ L', k ∈ Ld ∨ u.heap.size ≤ k) ∧ Touch u w' Ld) := hap
  have HZO : Hid (∀ u, Calls Tryz.prog 58 #[.int .i64 (blocks : Int)] u fun e w' => e = .returned (.int .i64 (Z : Int)) ∧ w' = u) := hzo
  have HH : Hid (SgAt W00 w db sb nm next blocks false false (sgD nm F ops ahead parts cut room) Ld ∧ 512 * blocks = Z) := ⟨h, hZ⟩
  have bx : Box w sb (scells db nm next blocks false false) := h.box
  clear h hk hf hF hr1 hr2 hr3 hr4 hsz hbl hb2 hnm hap hdl hZ hzo
  go_enter Tryz.func32, Tryz.ntmps32
  go_wp2_with fail
  refine hr.mono ?_
  rintro e w1 ⟨rfl, hw⟩
  obtain rfl : w = w1 := hw.symm
  clear hr
  go_wp2_with fail
  have hs : ∃ s, Box w.drew sb (scells db nm next blocks false s) := ⟨false, bx.up (Up.drew w)⟩
  have s0 : ∀ u, (∃ s, Box u sb (scells db nm next blocks false s)) → u.cell? ⟨sb, 0, none⟩ = some (.pointer (some ⟨db, 0, none⟩)) ∧ u.cell? ⟨sb, 1, none⟩ = some (Sv nm) ∧ u.cell? ⟨sb, 3, none⟩ = some (.int .i64 (blocks : Int)) := fun u hu => by obtain ⟨s, hb⟩ := hu; exact ⟨hb.cell 0, hb.cell 1, hb.cell 3⟩
  clear c4
  refine wp_region_held_drew (S := fun u => ∃ s, Box u sb (scells db nm next blocks false s)) (by kernel_rfl) hs (fun hs0 => ?_)
  refine take_to (some 14) (i := 0) (v := .pointer (some ⟨sb, 0, none⟩)) rfl rfl (by kernel_rfl) (by kernel_rfl) (by kernel_rfl) (fun _ _ _ h => h) (Or.inl ⟨by kernel_rfl, by intro u hSu; go_simp⟩) hs ?_
  simp only [Act.put, List.setIfInBounds_toArray, List.set_cons_zero, List.set_cons_succ]
  refine take_to (some 15) (i := 1) (v := .pointer (some ⟨sb, 0, none⟩)) rfl rfl (by kernel_rfl) (by kernel_rfl) (by kernel_rfl) (fun _ _ _ h => h) (Or.inl ⟨by kernel_rfl, by intro u hSu; go_simp⟩) hs ?_
  simp only [Act.put, List.setIfInBounds_toArray, List.set_cons_zero, List.set_cons_succ]
  refine take_to (some 16) (i := 2) (v := .pointer (some ⟨sb, 0, none⟩)) rfl rfl (by kernel_rfl) (by kernel_rfl) (by kernel_rfl) (fun _ _ _ h => h) (Or.inl ⟨by kernel_rfl, by intro u hSu; go_simp⟩) hs ?_
  simp only [Act.put, List.setIfInBounds_toArray, List.set_cons_zero, List.set_cons_succ]
  refine take_to (some 17) (i := 3) (v := .pointer (some ⟨sb, 0, none⟩)) rfl rfl (by kernel_rfl) (by kernel_rfl) (by kernel_rfl) (fun _ _ _ h => h) (Or.inl ⟨by kernel_rfl, by intro u hSu; go_simp⟩) hs ?_
  simp only [Act.put, List.setIfInBounds_toArray, List.set_cons_zero, List.set_cons_succ]
  refine take_to (some 18) (i := 4) (v := .pointer (some ⟨db, 0, none⟩)) rfl rfl (by kernel_rfl) (by kernel_rfl) (by kernel_rfl) (fun _ _ _ h => h) (Or.inl ⟨by kernel_rfl, by intro u hSu; have q0 := (s0 u hSu).1; go_simp⟩) hs ?_
  simp only [Act.put, List.setIfInBounds_toArray, List.set_cons_zero, List.set_cons_succ]
  refine take_to (some 19) (i := 5) (v := .pointer (some ⟨sb, 0, none⟩)) rfl rfl (by kernel_rfl) (by kernel_rfl) (by kernel_rfl) (fun _ _ _ h => h) (Or.inl ⟨by kernel_rfl, by intro u hSu; go_simp⟩) hs ?_
  simp only [Act.put, List.setIfInBounds_toArray, List.set_cons_zero, List.set_cons_succ]
  refine take_to (some 20) (i := 6) (v := .pointer (some ⟨sb, 0, none⟩)) rfl rfl (by kernel_rfl) (by kernel_rfl) (by kernel_rfl) (fun _ _ _ h => h) (Or.inl ⟨by kernel_rfl, by intro u hSu; go_simp⟩) hs ?_
  simp only [Act.put, List.setIfInBounds_toArray, List.set_cons_zero, List.set_cons_succ]
  refine take_to (some 21) (i := 7) (v := .pointer (some ⟨sb, 1, none⟩)) rfl rfl (by kernel_rfl) (by kernel_rfl) (by kernel_rfl) (fun _ _ _ h => h) (Or.inl ⟨by kernel_rfl, by intro u hSu; go_simp⟩) hs ?_
  simp only [Act.put, List.setIfInBounds_toArray, List.set_cons_zero, List.set_cons_succ]
  refine take_to (some 22) (i := 8) (v := Sv nm) rfl rfl (by kernel_rfl) (by kernel_rfl) (by kernel_rfl) (fun _ _ _ h => h) (Or.inl ⟨by kernel_rfl, by intro u hSu; have q0 := (s0 u hSu).2.1; go_simp⟩) hs ?_
  simp only [Act.put, List.setIfInBounds_toArray, List.set_cons_zero, List.set_cons_succ]
  refine take_to (some 23) (i := 9) (v := .pointer (some ⟨sb, 0, none⟩)) rfl rfl (by kernel_rfl) (by kernel_rfl) (by kernel_rfl) (fun _ _ _ h => h) (Or.inl ⟨by kernel_rfl, by intro u hSu; go_simp⟩) hs ?_
  simp only [Act.put, List.setIfInBounds_toArray, List.set_cons_zero, List.set_cons_succ]
  refine take_to (some 24) (i := 10) (v := .pointer (some ⟨sb, 0, none⟩)) rfl rfl (by kernel_rfl) (by kernel_rfl) (by kernel_rfl) (fun _ _ _ h => h) (Or.inl ⟨by kernel_rfl, by intro u hSu; go_simp⟩) hs ?_
  simp only [Act.put, List.setIfInBounds_toArray, List.set_cons_zero, List.set_cons_succ]
  refine take_to (some 25) (i := 11) (v := .pointer (some ⟨sb, 3, none⟩)) rfl rfl (by kernel_rfl) (by kernel_rfl) (by kernel_rfl) (fun _ _ _ h => h) (Or.inl ⟨by kernel_rfl, by intro u hSu; go_simp⟩) hs ?_
  simp only [Act.put, List.setIfInBounds_toArray, List.set_cons_zero, List.set_cons_succ]
  refine take_to (some 26) (i := 12) (v := .int .i64 (blocks : Int)) rfl rfl (by kernel_rfl) (by kernel_rfl) (by kernel_rfl) (fun _ _ _ h => h) (Or.inl ⟨by kernel_rfl, by intro u hSu; have q0 := (s0 u hSu).2.2; go_simp⟩) hs ?_
  simp only [Act.put, List.setIfInBounds_toArray, List.set_cons_zero, List.set_cons_succ]
  refine wpAnyH_ready (rs := [13]) (by kernel_rfl) (by simp) ?_
  refine AllReadyH.cons rfl (fun K hK => ?_) AllReadyH.nil
  go_simp
  refine (HZO.out w.drew).mono ?_
  rintro e w2 ⟨rfl, hw2⟩
  obtain rfl : w.drew = w2 := hw2.symm
  refine hK.out _ _ hs (fun _ => ?_)
  clear hK K
  refine wpAnyH_ready (rs := [14]) (by kernel_rfl) (by simp) ?_
  refine AllReadyH.cons rfl (fun K hK => ?_) AllReadyH.nil
  go_simp
  refine (HA.out w.drew (Up.drew w)).mono ?_
  rintro e w3 ⟨rfl, L', d1, d2, d3⟩
  have b3 : Box w3 sb (scells db nm next blocks false false) := d3.box (bx.up (Up.drew w)) HH.out.1.ns
  refine hK.out _ _ ⟨false, b3⟩ (fun _ => ?_)
  clear hK K
  refine wpAnyH_ready (rs := [15]) (by kernel_rfl) (by simp) ?_
  refine AllReadyH.cons rfl (fun K hK => ?_) AllReadyH.nil
  go_simp
  refine (meet_nil sb w3).mono ?_
  rintro e w4 ⟨rfl, hw4⟩
  obtain rfl : w3 = w4 := hw4.symm
  refine hK.out _ _ ⟨_, b3⟩ (fun _ => ?_)
  clear hK K
  refine wpAnyH_ready (rs := [16]) (by kernel_rfl) (by simp) ?_
  refine AllReadyH.cons rfl (fun K hK => ?_) AllReadyH.nil
  go_simp
  refine hK.out _ _ ⟨_, b3⟩ (fun _ => ?_)
  clear hK K
  refine wpAnyH_done (by kernel_rfl) ?_ _
  have k4 : w3.cell? ⟨sb, 4, none⟩ = some (.bool false) := b3.cell 4
  have f4 : w3.frozen? ⟨sb, 4, none⟩ = false := b3.frozen 4
  have H3 : Hid (DiskAt w3 W00.heap.size db (sgD nm (F.cut Z) (ops + 1) ahead parts cut (room + 1)) L' ∧ (∀ k ∈ L', k ∈ Ld ∨ w.drew.heap.size ≤ k) ∧ Touch w.drew w3 Ld ∧ Box w3 sb (scells db nm next blocks false false)) := ⟨d1, d2, d3, b3⟩
  clear d1 d2 d3 b3 bx hs hs0 s0
  go_wp2
  go_ret
  obtain ⟨d1, d2, d3, b3⟩ := H3.out
  obtain ⟨h, hZ⟩ := HH.out
  have uw := Up.drew w
  have t5 : Touch w3 (w3.setCell ⟨sb, 4, none⟩ (.bool true)) [sb] := (Touch.refl _ _).setCell (.inl (by simp)) _ _
  have hns : sb ∉ L' := fun hm => by
    rcases d2 sb hm with q1 | q1
    · exact h.ns q1
    · have := h.box.lt; have := uw.size; omega
  have tt : Touch w (w3.setCell ⟨sb, 4, none⟩ (.bool true)) (sb :: Ld) := ((Touch.of_up uw (sb :: Ld)).trans d3 (fun k hk => .inl (List.mem_cons_of_mem _ hk))).trans t5 (fun k hk => .inl (by simp at hk; simp [hk]))
  refine ⟨rfl, L', ⟨?_, ?_, hns, h.new, Touch.up_of h.up tt (fun k hk => ?_)⟩, fun k hk => (d2 k hk).imp id (fun q1 => Nat.le_trans uw.size q1), tt⟩
  · exact b3.set 4 _
  · rw [hZ]; exact d1.kept t5 (fun k hk hm => hns (by simp at hm; subst hm; exact hk))
  · rcases List.mem_cons.1 hk with rfl | q1
    · exact h.new
    · exact h.dsk.ge k q1
end Go.Proofs.YtkfjkfpodkbkaaaGreatDoor
