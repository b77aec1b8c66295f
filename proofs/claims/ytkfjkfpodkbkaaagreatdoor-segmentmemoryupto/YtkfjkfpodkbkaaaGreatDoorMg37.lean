/- Merged: SgApp. -/
import Derived.Test.YtkfjkfpodkbkaaaGreatDoorMg36
set_option linter.unusedVariables false
set_option linter.unusedSimpArgs false
namespace Go.Proofs.YtkfjkfpodkbkaaaGreatDoor
open Go Go.RowKit

/-- A segment over a disk of one file. -/
structure SgAt (W00 w : World) (db sb : Nat) (nm : Nm) (next blocks : Nat) (whole sick : Bool) (D : Dsk) (L : List Nat) : Prop where
  box : Box w sb (scells db nm next blocks whole sick)
  dsk : DiskAt w W00.heap.size db D L
  ns : sb ∉ L
  new : W00.heap.size ≤ sb
  up : Up W00 w
theorem DiskAt.ge {w : World} {base db : Nat} {D : Dsk} {L : List Nat} (h : DiskAt w base db D L) : ∀ k ∈ L, base ≤ k := by obtain ⟨_, _, _, _, _, q, rfl⟩ := h; exact q.ge
theorem DiskAt.lt {w : World} {base db : Nat} {D : Dsk} {L : List Nat} (h : DiskAt w base db D L) : ∀ k ∈ L, k < w.heap.size := by obtain ⟨_, _, _, _, _, q, rfl⟩ := h; exact q.lt
theorem DiskAt.up {w w' : World} {base db : Nat} {D : Dsk} {L : List Nat} (h : DiskAt w base db D L) (u : Up w w') : DiskAt w' base db D L := by obtain ⟨_, _, _, _, _, q, rfl⟩ := h; exact ⟨_, _, _, _, _, q.up u, rfl⟩
theorem DiskAt.kept {w w' : World} {base db : Nat} {D : Dsk} {L S : List Nat} (h : DiskAt w base db D L) (t : Touch w w' S) (hS : ∀ k ∈ L, k ∉ S) : DiskAt w' base db D L := by obtain ⟨_, _, _, _, _, q, rfl⟩ := h; exact ⟨_, _, _, _, _, q.kept t hS, rfl⟩
theorem SgAt.next {W00 w w' : World} {db sb : Nat} {nm : Nm} {next blocks : Nat} {whole sick : Bool} {D : Dsk} {L : List Nat} (h : SgAt W00 w db sb nm next blocks whole sick D L) (u : Up w w') : SgAt W00 w' db sb nm next blocks whole sick D L :=
  ⟨h.box.up u, h.dsk.up u, h.ns, h.new, h.up.trans u⟩

theorem SegAppend_none (W00 w : World) (db sb : Nat) (nm : Nm) (next blocks : Nat) (D : Dsk) (Ld : List Nat) (v : Value) (h : SgAt W00 w db sb nm next blocks true false D Ld) (hv : Rw w v []) :
    Calls Tryz.prog 18 #[.pointer (some ⟨sb, 0, none⟩), v] w fun e w' => e = .returned .nilIface ∧ w' = w := by
  obtain ⟨ao, cap, rfl, -⟩ := hv
  have hr := sready_ok sb db nm next blocks true w h.box
  have c4 : w.cell? ⟨sb, 4, none⟩ = some (.bool true) := h.box.cell 4
  clear h
  go_enter Tryz.func18, Tryz.ntmps18
  go_wp2_with fail
  refine hr.mono ?_
  rintro e w1 ⟨rfl, hw⟩
  obtain rfl : w = w1 := hw.symm
  clear hr
  go_wp2
  go_ret
  exact ⟨rfl, rfl⟩
theorem SegAppend_sick (W00 w : World) (db sb : Nat) (nm : Nm) (next blocks : Nat) (D : Dsk) (Ld : List Nat) (ao : Option Addr) (n cap : Nat) (a : Addr) (h : SgAt W00 w db sb nm next blocks true true D Ld) (ha : w.cell? ⟨4, 0, none⟩ = some (E a)) :
    Calls Tryz.prog 18 #[.pointer (some ⟨sb, 0, none⟩), .slice ao n cap] w fun e w' => e = .returned (E a) ∧ w' = w := by
  have hr := sready_sick sb db nm next blocks true w a h.box ha
  clear h
  go_enter Tryz.func18, Tryz.ntmps18
  go_wp2_with fail
  refine hr.mono ?_
  rintro e w1 ⟨rfl, hw⟩
  obtain rfl : w = w1 := hw.symm
  clear hr
  go_wp2
  go_ret
  exact ⟨rfl, rfl⟩
theorem SegSync_sick (W00 w : World) (db sb : Nat) (nm : Nm) (next blocks : Nat) (whole : Bool) (D : Dsk) (Ld : List Nat) (a : Addr) (h : SgAt W00 w db sb nm next blocks whole true D Ld) (ha : w.cell? ⟨4, 0, none⟩ = some (E a)) :
    Calls Tryz.prog 19 #[.pointer (some ⟨sb, 0, none⟩)] w fun e w' => e = .returned (E a) ∧ w' = w := by
  have hr := sready_sick sb db nm next blocks whole w a h.box ha
  clear h
  go_enter Tryz.func19, Tryz.ntmps19
  go_wp2_with fail
  refine hr.mono ?_
  rintro e w1 ⟨rfl, hw⟩
  obtain rfl : w = w1 := hw.symm
  clear hr
  go_wp2
  go_ret
  exact ⟨rfl, rfl⟩
theorem SegCut_sick (W00 w : World) (db sb : Nat) (nm : Nm) (next blocks : Nat) (whole : Bool) (D : Dsk) (Ld : List Nat) (a : Addr) (h : SgAt W00 w db sb nm next blocks whole true D Ld) (ha : w.cell? ⟨4, 0, none⟩ = some (E a)) :
    Calls Tryz.prog 32 #[.pointer (some ⟨sb, 0, none⟩)] w fun e w' => e = .returned (E a) ∧ w' = w := by
  have hr := sready_sick sb db nm next blocks whole w a h.box ha
  clear h
  go_enter Tryz.func32, Tryz.ntmps32
  go_wp2_with fail
  refine hr.mono ?_
  rintro e w1 ⟨rfl, hw⟩
  obtain rfl : w = w1 := hw.symm
  clear hr
  go_wp2
  go_ret
  exact ⟨rfl, rfl⟩

/-- Pack refuses. -/
theorem SegAppend_bad (W00 w : World) (db sb : Nat) (nm : Nm) (next blocks : Nat) (D : Dsk) (Ld : List Nat) (v : Value) (Rs : List Rec) (ad : Nat → Addr) (a : Addr) (h : SgAt W00 w db sb nm next blocks true false D Ld) (hk : Ks W00 ad) (hv : Rw w v Rs) (hne : Rs ≠ []) (hl : Rs.length ≤ 1000000000) (hn : next < 18446744073709551616) (he : pkE ad next Rs = E a) :
    Calls Tryz.prog 18 #[.pointer (some ⟨sb, 0, none⟩), v] w fun e w' => e = .returned (E a) ∧ Up w w' := by
  have hpk := Pack_any next v Rs w ad (hk.up h.up).tb (hk.up h.up).gl hn hv hl
  obtain ⟨ao, cap, rfl, -⟩ := hv
  have hr := sready_ok sb db nm next blocks true w h.box
  have c4 : w.cell? ⟨sb, 4, none⟩ = some (.bool true) := h.box.cell 4
  have c2 : w.cell? ⟨sb, 2, none⟩ = some (.int .u64 (next : Int)) := h.box.cell 2
  have e0 : ((Rs.length : Int) == 0) = false := by have := List.length_pos_iff.2 hne; simp; omega
  rw [he] at hpk
  clear h hk hne hl hn he
  go_enter Tryz.func18, Tryz.ntmps18
  go_wp2_with fail
  refine hr.mono ?_
  rintro e w1 ⟨rfl, hw⟩
  obtain rfl : w = w1 := hw.symm
  clear hr
  go_wp2_with fail
  refine hpk.mono ?_
  rintro e w2 ⟨v', rfl, ho, hu⟩
  clear hpk ho
  go_wp2
  go_ret
  exact ⟨rfl, hu⟩

set_option maxRecDepth 20000 in
set_option maxHeartbeats 1600000 in
theorem SegAppend_ok (W00 w : World) (db sb : Nat) (nm : Nm) (next blocks : Nat) (F : Fil) (ops ahead : Nat) (parts : Int → Option Int) (cut : Int) (room : Nat) (Ld : List Nat) (v : Value) (Rs : List Rec) (ad : Nat → Addr) (h : SgAt W00 w db sb nm next blocks true false (sgD nm F ops ahead parts cut room) Ld) (hk : Ks W00 ad) (hv : Rw w v Rs) (hne : Rs ≠ [])
    (hl : Rs.length ≤ 1000000000) (hn : next < 4611686018427387905) (hnum : NumOk next Rs.length) (hlong : anyLong Rs = false) (hf : (sgD nm F ops ahead parts cut room).fate = .goes) (hF : F.Ok) (hr1 : 1 ≤ room) (hr2 : ops ≤ room) (hr3 : ahead ≤ ops) (hr4 : room ≤ 100000000) (hsz : F.seen.data.length + (packB next Rs).length ≤ 1000000000000) (hbl : blocks ≤ 1000000000000) (hnm : nm.length ≤ 64)
    (hprt : ∀ k q, parts k = some q → -9223372036854775808 ≤ q ∧ q ≤ 9223372036854775807) :
    Calls Tryz.prog 18 #[.pointer (some ⟨sb, 0, none⟩), v] w fun e w' => ∃ L', e = .returned .nilIface ∧ SgAt W00 w' db sb nm (next + Rs.length) (blocks + (packB next Rs).length / 512) true false (sgD nm (F.add (packB next Rs)) (ops + 1) ahead parts cut (room + 1)) L' ∧ (∀ k ∈ L', k ∈ Ld ∨ w.heap.size ≤ k) ∧ Touch w w' (sb :: Ld) := by
  have hpk := Pack_ok next v Rs w (hk.up h.up).tb (by omega) hv hl hnum hlong
  have hdl := h.dsk.lt
  have hap : ∀ u ao cap, Up w u → Sl 0 u (.slice ao (packB next Rs).length cap) (packB next Rs) → (∀ k, (Value.slice ao (packB next Rs).length cap).ownBlock = some k → w.heap.size ≤ k) → Calls Tryz.prog 29 #[.pointer (some ⟨db, 0, none⟩), Sv nm, .slice ao (packB next Rs).length cap] u fun e w' => e = .returned .nilIface ∧ ∃ L', DiskAt w' W00.heap.size db (sgD nm (F.add (packB next Rs)) (ops + 1) ahead parts cut (room + 1)) L' ∧ (∀ k ∈ L', k ∈ Ld ∨ u.heap.size ≤ k) ∧ Touch u w' Ld := fun u ao cap uu hs hb => by
    refine (Append_any W00 db _ Ld u ad nm 0 F ao cap (packB next Rs) (h.dsk.up uu) (h.up.trans uu) hk.er rfl (sgD_ok nm F hF ops ahead parts cut room hr1 hr2 hr3) (by show room ≤ _; omega) (sgD_seen _ _ _ _ _ _ _) rfl hF hs (fun _ k hk hm => by have := hb k hk; have := hdl k hm; omega) (by unfold CB; omega) (by unfold maxLen; omega) hprt).mono ?_
    rintro e w1 ⟨rfl, L', d1, d2, d3⟩
    rw [sg_append nm F _ ops ahead parts cut room hf] at d1
    rw [hf]
    exact ⟨rfl, L', d1, d2, d3⟩
  obtain ⟨ao, cap, rfl, -⟩ := hv
  have hr := sready_ok sb db nm next blocks true w h.box
  have c4 : w.cell? ⟨sb, 4, none⟩ = some (.bool true) := h.box.cell 4
  have c2 : w.cell? ⟨sb, 2, none⟩ = some (.int .u64 (next : Int)) := h.box.cell 2
  have e0 : ((Rs.length : Int) == 0) = false := by have := List.length_pos_iff.2 hne; simp; omega
  obtain ⟨Z, hZ⟩ : ∃ Z, (packB next Rs).length = Z := ⟨_, rfl⟩
  have hZ2 : Z ≤ 1000000000000 := by omega
  rw [hZ] at hap
  have HA : Hid (∀ u ao cap, Up w u → Sl 0 u (.slice ao Z cap) (packB next Rs) → (∀ k, (Value.slice ao Z cap).ownBlock = some k → w.heap.size ≤ k) → Calls Tryz.prog 29 #[.pointer (some ⟨db, 0, none⟩), Sv nm, .slice ao Z cap] u fun e w' => e = .returned .nilIface ∧ ∃ L', DiskAt w' W00.heap.size db (sgD nm (F.add (packB next Rs)) (ops + 1) ahead parts cut (room + 1)) L' ∧ (∀ k ∈ L', k ∈ Ld ∨ u.heap.size ≤ k) ∧ Touch u w' Ld) := hap
  have HH : Hid (SgAt W00 w db sb nm next blocks true false (sgD nm F ops ahead parts cut room) Ld ∧ (packB next Rs).length = Z) := ⟨h, hZ⟩
  have w1 : IntKind.u64.wrap (Rs.length : Int) = (Rs.length : Int) := by rw [IntKind.wrap_u64]; omega
  have w2 : IntKind.u64.wrap ((next : Int) + (Rs.length : Int)) = (next : Int) + (Rs.length : Int) := by rw [IntKind.wrap_u64]; omega
  obtain ⟨Qz, hQz⟩ : ∃ Qz : Nat, Z / 512 = Qz := ⟨_, rfl⟩
  have w3 : (Z : Int) / 512 = (Qz : Int) := by omega
  have w4 : IntKind.i64.wrap ((blocks : Int) + (Qz : Int)) = (blocks : Int) + (Qz : Int) := by rw [IntKind.wrap_i64]; omega
  have w5 : (0 : Int) ≤ (Z : Int) := by omega
  have w6 : (Z : Int) ≤ 1000000000000 := by omega
  have HQ : Hid (Z / 512 = Qz) := hQz
  have HB : Hid (blocks ≤ 1000000000000 ∧ Rs.length ≤ 1000000000 ∧ next < 4611686018427387905) := ⟨hbl, hl, hn⟩
  clear h hk hne hl hn hnum hlong hf hF hr1 hr2 hr3 hr4 hsz hbl hnm hprt hap hdl hZ hZ2 hQz
  go_enter Tryz.func18, Tryz.ntmps18
  go_wp2_with fail
  refine hr.mono ?_
  rintro e w1 ⟨rfl, hw⟩
  obtain rfl : w = w1 := hw.symm
  clear hr
  go_wp2_with fail
  refine hpk.mono ?_
  rintro e w2 ⟨v', rfl, ho, hu⟩
  clear hpk
  obtain ⟨p, q, rfl⟩ := OwnB.slice ho
  have hsl : Sl 0 w2 (.slice p Z q) (packB next Rs) := by rw [← HH.out.2]; exact OwnB.any0 ho
  have hob : ∀ k, (Value.slice p Z q).ownBlock = some k → w.heap.size ≤ k := fun k hk => (OwnB.ge ho k (mem_ob.2 (by cases p <;> exact hk))).1
  rw [HH.out.2]
  have bx : Box w2 sb (scells db nm next blocks true false) := HH.out.1.box.up hu
  have HU : Hid (Up w w2 ∧ Sl 0 w2 (.slice p Z q) (packB next Rs) ∧ (∀ k, (Value.slice p Z q).ownBlock = some k → w.heap.size ≤ k)) := ⟨hu, hsl, hob⟩
  clear ho hu hsl hob c4 c2
  go_wp2_with fail
  have hs : ∃ s, Box w2.drew sb (scells db nm next blocks true s) := ⟨false, bx.up (Up.drew w2)⟩
  have s0 : ∀ u, (∃ s, Box u sb (scells db nm next blocks true s)) → u.cell? ⟨sb, 0, none⟩ = some (.pointer (some ⟨db, 0, none⟩)) ∧ u.cell? ⟨sb, 1, none⟩ = some (Sv nm) := fun u hu => by obtain ⟨s, hb⟩ := hu; exact ⟨hb.cell 0, hb.cell 1⟩
  refine wp_region_held_drew (S := fun u => ∃ s, Box u sb (scells db nm next blocks true s)) (by kernel_rfl) hs (fun hs0 => ?_)
  refine take_to (some 35) (i := 0) (v := .pointer (some ⟨sb, 0, none⟩)) rfl rfl (by kernel_rfl) (by kernel_rfl) (by kernel_rfl) (fun _ _ _ h => h) (Or.inl ⟨by kernel_rfl, by intro u hSu; go_simp⟩) hs ?_
  simp only [Act.put, List.setIfInBounds_toArray, List.set_cons_zero, List.set_cons_succ]
  refine take_to (some 36) (i := 1) (v := .pointer (some ⟨sb, 0, none⟩)) rfl rfl (by kernel_rfl) (by kernel_rfl) (by kernel_rfl) (fun _ _ _ h => h) (Or.inl ⟨by kernel_rfl, by intro u hSu; go_simp⟩) hs ?_
  simp only [Act.put, List.setIfInBounds_toArray, List.set_cons_zero, List.set_cons_succ]
  refine take_to (some 37) (i := 2) (v := .pointer (some ⟨sb, 0, none⟩)) rfl rfl (by kernel_rfl) (by kernel_rfl) (by kernel_rfl) (fun _ _ _ h => h) (Or.inl ⟨by kernel_rfl, by intro u hSu; go_simp⟩) hs ?_
  simp only [Act.put, List.setIfInBounds_toArray, List.set_cons_zero, List.set_cons_succ]
  refine take_to (some 38) (i := 3) (v := .pointer (some ⟨sb, 0, none⟩)) rfl rfl (by kernel_rfl) (by kernel_rfl) (by kernel_rfl) (fun _ _ _ h => h) (Or.inl ⟨by kernel_rfl, by intro u hSu; go_simp⟩) hs ?_
  simp only [Act.put, List.setIfInBounds_toArray, List.set_cons_zero, List.set_cons_succ]
  refine take_to (some 39) (i := 4) (v := .pointer (some ⟨db, 0, none⟩)) rfl rfl (by kernel_rfl) (by kernel_rfl) (by kernel_rfl) (fun _ _ _ h => h) (Or.inl ⟨by kernel_rfl, by intro u hSu; have q0 := (s0 u hSu).1; go_simp⟩) hs ?_
  simp only [Act.put, List.setIfInBounds_toArray, List.set_cons_zero, List.set_cons_succ]
  refine take_to (some 40) (i := 5) (v := .pointer (some ⟨sb, 0, none⟩)) rfl rfl (by kernel_rfl) (by kernel_rfl) (by kernel_rfl) (fun _ _ _ h => h) (Or.inl ⟨by kernel_rfl, by intro u hSu; go_simp⟩) hs ?_
  simp only [Act.put, List.setIfInBounds_toArray, List.set_cons_zero, List.set_cons_succ]
  refine take_to (some 41) (i := 6) (v := .pointer (some ⟨sb, 0, none⟩)) rfl rfl (by kernel_rfl) (by kernel_rfl) (by kernel_rfl) (fun _ _ _ h => h) (Or.inl ⟨by kernel_rfl, by intro u hSu; go_simp⟩) hs ?_
  simp only [Act.put, List.setIfInBounds_toArray, List.set_cons_zero, List.set_cons_succ]
  refine take_to (some 42) (i := 7) (v := .pointer (some ⟨sb, 1, none⟩)) rfl rfl (by kernel_rfl) (by kernel_rfl) (by kernel_rfl) (fun _ _ _ h => h) (Or.inl ⟨by kernel_rfl, by intro u hSu; go_simp⟩) hs ?_
  simp only [Act.put, List.setIfInBounds_toArray, List.set_cons_zero, List.set_cons_succ]
  refine take_to (some 43) (i := 8) (v := Sv nm) rfl rfl (by kernel_rfl) (by kernel_rfl) (by kernel_rfl) (fun _ _ _ h => h) (Or.inl ⟨by kernel_rfl, by intro u hSu; have q0 := (s0 u hSu).2; go_simp⟩) hs ?_
  simp only [Act.put, List.setIfInBounds_toArray, List.set_cons_zero, List.set_cons_succ]
  refine take_to (some 44) (i := 9) (v := .slice p Z q) rfl rfl (by kernel_rfl) (by kernel_rfl) (by kernel_rfl) (fun _ _ _ h => h) (Or.inl ⟨by kernel_rfl, by intro u hSu; go_simp⟩) hs ?_
  simp only [Act.put, List.setIfInBounds_toArray, List.set_cons_zero, List.set_cons_succ]
  refine wpAnyH_ready (rs := [10]) (by kernel_rfl) (by simp) ?_
  refine AllReadyH.cons rfl (fun K hK => ?_) AllReadyH.nil
  go_simp
  refine (HA.out w2.drew p q (HU.out.1.trans (Up.drew w2)) (HU.out.2.1.up (Up.drew w2)) HU.out.2.2).mono ?_
  rintro e w3 ⟨rfl, L', d1, d2, d3⟩
  have b3 : Box w3 sb (scells db nm next blocks true false) := d3.box (bx.up (Up.drew w2)) HH.out.1.ns
  refine hK.out _ _ ⟨false, b3⟩ (fun _ => ?_)
  clear hK K
  refine wpAnyH_ready (rs := [11]) (by kernel_rfl) (by simp) ?_
  refine AllReadyH.cons rfl (fun K hK => ?_) AllReadyH.nil
  go_simp
  refine (meet_nil sb w3).mono ?_
  rintro e w4 ⟨rfl, hw4⟩
  obtain rfl : w3 = w4 := hw4.symm
  have b4 := b3
  refine hK.out _ _ ⟨_, b4⟩ (fun _ => ?_)
  clear hK K
  refine wpAnyH_ready (rs := [12]) (by kernel_rfl) (by simp) ?_
  refine AllReadyH.cons rfl (fun K hK => ?_) AllReadyH.nil
  go_simp
  refine hK.out _ _ ⟨_, b4⟩ (fun _ => ?_)
  clear hK K
  refine wpAnyH_done (by kernel_rfl) ?_ _
  have k2 : w3.cell? ⟨sb, 2, none⟩ = some (.int .u64 (next : Int)) := b3.cell 2
  have k3 : w3.cell? ⟨sb, 3, none⟩ = some (.int .i64 (blocks : Int)) := b3.cell 3
  have f2 : w3.frozen? ⟨sb, 2, none⟩ = false := b3.frozen 2
  have f3 : w3.frozen? ⟨sb, 3, none⟩ = false := b3.frozen 3
  have H3 : Hid (DiskAt w3 W00.heap.size db (sgD nm (F.add (packB next Rs)) (ops + 1) ahead parts cut (room + 1)) L' ∧ (∀ k ∈ L', k ∈ Ld ∨ w2.drew.heap.size ≤ k) ∧ Touch w2.drew w3 Ld ∧ Box w3 sb (scells db nm next blocks true false)) := ⟨d1, d2, d3, b3⟩
  clear d1 d2 d3 b3 b4 bx hs hs0 s0
  go_wp2
  go_ret
  obtain ⟨d1, d2, d3, b3⟩ := H3.out
  obtain ⟨h, hZ⟩ := HH.out
  have uw := HU.out.1.trans (Up.drew w2)
  have t5 : Touch w3 ((w3.setCell ⟨sb, 2, none⟩ (.int .u64 ((next : Int) + (Rs.length : Int)))).setCell ⟨sb, 3, none⟩ (.int .i64 ((blocks : Int) + (Qz : Int)))) [sb] := ((Touch.refl _ _).setCell (.inl (by simp)) _ _).setCell (.inl (by simp)) _ _
  have hns : sb ∉ L' := fun hm => by
    rcases d2 sb hm with q1 | q1
    · exact h.ns q1
    · have := h.box.lt; have := uw.size; omega
  have tt : Touch w ((w3.setCell ⟨sb, 2, none⟩ (.int .u64 ((next : Int) + (Rs.length : Int)))).setCell ⟨sb, 3, none⟩ (.int .i64 ((blocks : Int) + (Qz : Int)))) (sb :: Ld) := ((Touch.of_up uw (sb :: Ld)).trans d3 (fun k hk => .inl (List.mem_cons_of_mem _ hk))).trans t5 (fun k hk => .inl (by simp at hk; simp [hk]))
  refine ⟨rfl, L', ⟨?_, d1.kept t5 (fun k hk hm => hns (by simp at hm; subst hm; exact hk)), hns, h.new, Touch.up_of h.up tt (fun k hk => ?_)⟩, fun k hk => (d2 k hk).imp id (fun q1 => Nat.le_trans uw.size q1), tt⟩
  · have e : scells db nm (next + Rs.length) (blocks + (packB next Rs).length / 512) true false = ((scells db nm next blocks true false).setIfInBounds 2 (.int .u64 ((next : Int) + (Rs.length : Int)))).setIfInBounds 3 (.int .i64 ((blocks : Int) + (Qz : Int))) := by
      rw [hZ, HQ.out]; simp [scells]
    rw [e]
    exact (b3.set 2 _).set 3 _
  · rcases List.mem_cons.1 hk with rfl | q1
    · exact h.new
    · exact h.dsk.ge k q1

set_option maxRecDepth 20000 in
set_option maxHeartbeats 1600000 in
theorem SegAppend_fails (W00 w : World) (db sb : Nat) (nm : Nm) (next blocks : Nat) (F : Fil) (ops ahead : Nat) (parts : Int → Option Int) (cut : Int) (room : Nat) (Ld : List Nat) (v : Value) (Rs : List Rec) (ad : Nat → Addr) (q0 : Int) (h : SgAt W00 w db sb nm next blocks true false (sgD nm F ops ahead parts cut room) Ld) (hk : Ks W00 ad) (hv : Rw w v Rs) (hne : Rs ≠ [])
    (hl : Rs.length ≤ 1000000000) (hn : next < 4611686018427387905) (hnum : NumOk next Rs.length) (hlong : anyLong Rs = false) (hf : (sgD nm F ops ahead parts cut room).fate = .fails q0) (hF : F.Ok) (hr1 : 1 ≤ room) (hr2 : ops ≤ room) (hr3 : ahead ≤ ops) (hr4 : room ≤ 100000000) (hsz : F.seen.data.length + (packB next Rs).length ≤ 1000000000000) (hbl : blocks ≤ 1000000000000) (hnm : nm.length ≤ 64)
    (hprt : ∀ k q, parts k = some q → -9223372036854775808 ≤ q ∧ q ≤ 9223372036854775807) :
    Calls Tryz.prog 18 #[.pointer (some ⟨sb, 0, none⟩), v] w fun e w' => ∃ L', e = .returned (E (ad 0)) ∧ SgAt W00 w' db sb nm next blocks true true (sgD nm (F.add (partOf q0 (packB next Rs))) (ops + 1) ahead parts cut (room + 1)) L' ∧ (∀ k ∈ L', k ∈ Ld ∨ w.heap.size ≤ k) ∧ Touch w w' (sb :: Ld) := by
  have hpk := Pack_ok next v Rs w (hk.up h.up).tb (by omega) hv hl hnum hlong
  have hdl := h.dsk.lt
  have hap : ∀ u ao cap, Up w u → Sl 0 u (.slice ao (packB next Rs).length cap) (packB next Rs) → (∀ k, (Value.slice ao (packB next Rs).length cap).ownBlock = some k → w.heap.size ≤ k) → Calls Tryz.prog 29 #[.pointer (some ⟨db, 0, none⟩), Sv nm, .slice ao (packB next Rs).length cap] u fun e w' => e = .returned (E (ad 0)) ∧ ∃ L', DiskAt w' W00.heap.size db (sgD nm (F.add (partOf q0 (packB next Rs))) (ops + 1) ahead parts cut (room + 1)) L' ∧ (∀ k ∈ L', k ∈ Ld ∨ u.heap.size ≤ k) ∧ Touch u w' Ld := fun u ao cap uu hs hb => by
    refine (Append_any W00 db _ Ld u ad nm 0 F ao cap (packB next Rs) (h.dsk.up uu) (h.up.trans uu) hk.er rfl (sgD_ok nm F hF ops ahead parts cut room hr1 hr2 hr3) (by show room ≤ _; omega) (sgD_seen _ _ _ _ _ _ _) rfl hF hs (fun _ k hk hm => by have := hb k hk; have := hdl k hm; omega) (by unfold CB; omega) (by unfold maxLen; omega) hprt).mono ?_
    rintro e w1 ⟨rfl, L', d1, d2, d3⟩
    rw [sg_appendF nm F _ q0 ops ahead parts cut room hf] at d1
    rw [hf]
    exact ⟨rfl, L', d1, d2, d3⟩
  obtain ⟨ao, cap, rfl, -⟩ := hv
  have hr := sready_ok sb db nm next blocks true w h.box
  have c4 : w.cell? ⟨sb, 4, none⟩ = some (.bool true) := h.box.cell 4
  have c2 : w.cell? ⟨sb, 2, none⟩ = some (.int .u64 (next : Int)) := h.box.cell 2
  have e0 : ((Rs.length : Int) == 0) = false := by have := List.length_pos_iff.2 hne; simp; omega
  obtain ⟨Z, hZ⟩ : ∃ Z, (packB next Rs).length = Z := ⟨_, rfl⟩
  have hZ2 : Z ≤ 1000000000000 := by omega
  rw [hZ] at hap
  have HA : Hid (∀ u ao cap, Up w u → Sl 0 u (.slice ao Z cap) (packB next Rs) → (∀ k, (Value.slice ao Z cap).ownBlock = some k → w.heap.size ≤ k) → Calls Tryz.prog 29 #[.pointer (some ⟨db, 0, none⟩), Sv nm, .slice ao Z cap] u fun e w' => e = .returned (E (ad 0)) ∧ ∃ L', DiskAt w' W00.heap.size db (sgD nm (F.add (partOf q0 (packB next Rs))) (ops + 1) ahead parts cut (room + 1)) L' ∧ (∀ k ∈ L', k ∈ Ld ∨ u.heap.size ≤ k) ∧ Touch u w' Ld) := hap
  have HH : Hid (SgAt W00 w db sb nm next blocks true false (sgD nm F ops ahead parts cut room) Ld ∧ (packB next Rs).length = Z) := ⟨h, hZ⟩
  have w1 : IntKind.u64.wrap (Rs.length : Int) = (Rs.length : Int) := by rw [IntKind.wrap_u64]; omega
  have w2 : IntKind.u64.wrap ((next : Int) + (Rs.length : Int)) = (next : Int) + (Rs.length : Int) := by rw [IntKind.wrap_u64]; omega
  obtain ⟨Qz, hQz⟩ : ∃ Qz : Nat, Z / 512 = Qz := ⟨_, rfl⟩
  have w3 : (Z : Int) / 512 = (Qz : Int) := by omega
  have w4 : IntKind.i64.wrap ((blocks : Int) + (Qz : Int)) = (blocks : Int) + (Qz : Int) := by rw [IntKind.wrap_i64]; omega
  have w5 : (0 : Int) ≤ (Z : Int) := by omega
  have w6 : (Z : Int) ≤ 1000000000000 := by omega
  have HQ : Hid (Z / 512 = Qz) := hQz
  have HB : Hid (blocks ≤ 1000000000000 ∧ Rs.length ≤ 1000000000 ∧ next < 4611686018427387905) := ⟨hbl, hl, hn⟩
  clear h hk hne hl hn hnum hlong hf hF hr1 hr2 hr3 hr4 hsz hbl hnm hprt hap hdl hZ hZ2 hQz
  go_enter Tryz.func18, Tryz.ntmps18
  go_wp2_with fail
  refine hr.mono ?_
  rintro e w1 ⟨rfl, hw⟩
  obtain rfl : w = w1 := hw.symm
  clear hr
  go_wp2_with fail
  refine hpk.mono ?_
  rintro e w2 ⟨v', rfl, ho, hu⟩
  clear hpk
  obtain ⟨p, q, rfl⟩ := OwnB.slice ho
  have hsl : Sl 0 w2 (.slice p Z q) (packB next Rs) := by rw [← HH.out.2]; exact OwnB.any0 ho
  have hob : ∀ k, (Value.slice p Z q).ownBlock = some k → w.heap.size ≤ k := fun k hk => (OwnB.ge ho k (mem_ob.2 (by cases p <;> exact hk))).1
  rw [HH.out.2]
  have bx : Box w2 sb (scells db nm next blocks true false) := HH.out.1.box.up hu
  have HU : Hid (Up w w2 ∧ Sl 0 w2 (.slice p Z q) (packB next Rs) ∧ (∀ k, (Value.slice p Z q).ownBlock = some k → w.heap.size ≤ k)) := ⟨hu, hsl, hob⟩
  clear ho hu hsl hob c4 c2
  go_wp2_with fail
  have hs : ∃ s, Box w2.drew sb (scells db nm next blocks true s) := ⟨false, bx.up (Up.drew w2)⟩
  have s0 : ∀ u, (∃ s, Box u sb (scells db nm next blocks true s)) → u.cell? ⟨sb, 0, none⟩ = some (.pointer (some ⟨db, 0, none⟩)) ∧ u.cell? ⟨sb, 1, none⟩ = some (Sv nm) := fun u hu => by obtain ⟨s, hb⟩ := hu; exact ⟨hb.cell 0, hb.cell 1⟩
  refine wp_region_held_drew (S := fun u => ∃ s, Box u sb (scells db nm next blocks true s)) (by kernel_rfl) hs (fun hs0 => ?_)
  refine take_to (some 35) (i := 0) (v := .pointer (some ⟨sb, 0, none⟩)) rfl rfl (by kernel_rfl) (by kernel_rfl) (by kernel_rfl) (fun _ _ _ h => h) (Or.inl ⟨by kernel_rfl, by intro u hSu; go_simp⟩) hs ?_
  simp only [Act.put, List.setIfInBounds_toArray, List.set_cons_zero, List.set_cons_succ]
  refine take_to (some 36) (i := 1) (v := .pointer (some ⟨sb, 0, none⟩)) rfl rfl (by kernel_rfl) (by kernel_rfl) (by kernel_rfl) (fun _ _ _ h => h) (Or.inl ⟨by kernel_rfl, by intro u hSu; go_simp⟩) hs ?_
  simp only [Act.put, List.setIfInBounds_toArray, List.set_cons_zero, List.set_cons_succ]
  refine take_to (some 37) (i := 2) (v := .pointer (some ⟨sb, 0, none⟩)) rfl rfl (by kernel_rfl) (by kernel_rfl) (by kernel_rfl) (fun _ _ _ h => h) (Or.inl ⟨by kernel_rfl, by intro u hSu; go_simp⟩) hs ?_
  simp only [Act.put, List.setIfInBounds_toArray, List.set_cons_zero, List.set_cons_succ]
  refine take_to (some 38) (i := 3) (v := .pointer (some ⟨sb, 0, none⟩)) rfl rfl (by kernel_rfl) (by kernel_rfl) (by kernel_rfl) (fun _ _ _ h => h) (Or.inl ⟨by kernel_rfl, by intro u hSu; go_simp⟩) hs ?_
  simp only [Act.put, List.setIfInBounds_toArray, List.set_cons_zero, List.set_cons_succ]
  refine take_to (some 39) (i := 4) (v := .pointer (some ⟨db, 0, none⟩)) rfl rfl (by kernel_rfl) (by kernel_rfl) (by kernel_rfl) (fun _ _ _ h => h) (Or.inl ⟨by kernel_rfl, by intro u hSu; have q0 := (s0 u hSu).1; go_simp⟩) hs ?_
  simp only [Act.put, List.setIfInBounds_toArray, List.set_cons_zero, List.set_cons_succ]
  refine take_to (some 40) (i := 5) (v := .pointer (some ⟨sb, 0, none⟩)) rfl rfl (by kernel_rfl) (by kernel_rfl) (by kernel_rfl) (fun _ _ _ h => h) (Or.inl ⟨by kernel_rfl, by intro u hSu; go_simp⟩) hs ?_
  simp only [Act.put, List.setIfInBounds_toArray, List.set_cons_zero, List.set_cons_succ]
  refine take_to (some 41) (i := 6) (v := .pointer (some ⟨sb, 0, none⟩)) rfl rfl (by kernel_rfl) (by kernel_rfl) (by kernel_rfl) (fun _ _ _ h => h) (Or.inl ⟨by kernel_rfl, by intro u hSu; go_simp⟩) hs ?_
  simp only [Act.put, List.setIfInBounds_toArray, List.set_cons_zero, List.set_cons_succ]
  refine take_to (some 42) (i := 7) (v := .pointer (some ⟨sb, 1, none⟩)) rfl rfl (by kernel_rfl) (by kernel_rfl) (by kernel_rfl) (fun _ _ _ h => h) (Or.inl ⟨by kernel_rfl, by intro u hSu; go_simp⟩) hs ?_
  simp only [Act.put, List.setIfInBounds_toArray, List.set_cons_zero, List.set_cons_succ]
  refine take_to (some 43) (i := 8) (v := Sv nm) rfl rfl (by kernel_rfl) (by kernel_rfl) (by kernel_rfl) (fun _ _ _ h => h) (Or.inl ⟨by kernel_rfl, by intro u hSu; have q0 := (s0 u hSu).2; go_simp⟩) hs ?_
  simp only [Act.put, List.setIfInBounds_toArray, List.set_cons_zero, List.set_cons_succ]
  refine take_to (some 44) (i := 9) (v := .slice p Z q) rfl rfl (by kernel_rfl) (by kernel_rfl) (by kernel_rfl) (fun _ _ _ h => h) (Or.inl ⟨by kernel_rfl, by intro u hSu; go_simp⟩) hs ?_
  simp only [Act.put, List.setIfInBounds_toArray, List.set_cons_zero, List.set_cons_succ]
  refine wpAnyH_ready (rs := [10]) (by kernel_rfl) (by simp) ?_
  refine AllReadyH.cons rfl (fun K hK => ?_) AllReadyH.nil
  go_simp
  refine (HA.out w2.drew p q (HU.out.1.trans (Up.drew w2)) (HU.out.2.1.up (Up.drew w2)) HU.out.2.2).mono ?_
  rintro e w3 ⟨rfl, L', d1, d2, d3⟩
  have b3 : Box w3 sb (scells db nm next blocks true false) := d3.box (bx.up (Up.drew w2)) HH.out.1.ns
  refine hK.out _ _ ⟨false, b3⟩ (fun _ => ?_)
  clear hK K
  refine wpAnyH_ready (rs := [11]) (by kernel_rfl) (by simp) ?_
  refine AllReadyH.cons rfl (fun K hK => ?_) AllReadyH.nil
  go_simp
  refine (meet_err sb db nm next blocks true false (ad 0) w3 b3).mono ?_
  rintro e w4 ⟨rfl, b4, t4⟩
  refine hK.out _ _ ⟨_, b4⟩ (fun _ => ?_)
  clear hK K
  refine wpAnyH_ready (rs := [12]) (by kernel_rfl) (by simp) ?_
  refine AllReadyH.cons rfl (fun K hK => ?_) AllReadyH.nil
  go_simp
  refine hK.out _ _ ⟨_, b4⟩ (fun _ => ?_)
  clear hK K
  refine wpAnyH_done (by kernel_rfl) ?_ _
  have H3 : Hid (DiskAt w3 W00.heap.size db (sgD nm (F.add (partOf q0 (packB next Rs))) (ops + 1) ahead parts cut (room + 1)) L' ∧ (∀ k ∈ L', k ∈ Ld ∨ w2.drew.heap.size ≤ k) ∧ Touch w2.drew w3 Ld ∧ Touch w3 w4 [sb] ∧ Box w4 sb (scells db nm next blocks true true)) := ⟨d1, d2, d3, t4, b4⟩
  clear d1 d2 d3 b3 b4 bx hs hs0 s0 t4
  go_wp2
  go_ret
  obtain ⟨d1, d2, d3, t4, b4⟩ := H3.out
  obtain ⟨h, hZ⟩ := HH.out
  have uw := HU.out.1.trans (Up.drew w2)
  have hns : sb ∉ L' := fun hm => by
    rcases d2 sb hm with q1 | q1
    · exact h.ns q1
    · have := h.box.lt; have := uw.size; omega
  have tt : Touch w w4 (sb :: Ld) := ((Touch.of_up uw (sb :: Ld)).trans d3 (fun k hk => .inl (List.mem_cons_of_mem _ hk))).trans t4 (fun k hk => .inl (by simp at hk; simp [hk]))
  refine ⟨L', rfl, ⟨b4, d1.kept t4 (fun k hk hm => hns (by simp at hm; subst hm; exact hk)), hns, h.new, Touch.up_of h.up tt (fun k hk => ?_)⟩, fun k hk => (d2 k hk).imp id (fun q1 => Nat.le_trans uw.size q1), tt⟩
  rcases List.mem_cons.1 hk with rfl | q1
  · exact h.new
  · exact h.dsk.ge k q1

set_option maxRecDepth 20000 in
set_option maxHeartbeats 800000 in
theorem SegSync_ok (W00 w : World) (db sb : Nat) (nm : Nm) (next blocks : Nat) (whole : Bool) (F : Fil) (ops ahead : Nat) (parts : Int → Option Int) (cut : Int) (room : Nat) (Ld : List Nat) (ad : Nat → Addr) (h : SgAt W00 w db sb nm next blocks whole false (sgD nm F ops ahead parts cut room) Ld) (hk : Ks W00 ad)
    (hf : (sgD nm F ops ahead parts cut room).fate = .goes) (hF : F.Ok) (hr1 : 1 ≤ room) (hr2 : ops ≤ room) (hr3 : ahead ≤ ops) (hr4 : room ≤ 100000000) (hsz : F.seen.data.length ≤ 1000000000000) (hnm : nm.length ≤ 64) :
    Calls Tryz.prog 19 #[.pointer (some ⟨sb, 0, none⟩)] w fun e w' => ∃ L', e = .returned .nilIface ∧ SgAt W00 w' db sb nm next blocks whole false (sgD nm F.sync (ops + 1) ahead parts cut (room + 1)) L' ∧ (∀ k ∈ L', k ∈ Ld ∨ w.heap.size ≤ k) ∧ Touch w w' (sb :: Ld) := by
  have hap : ∀ u, Up w u → Calls Tryz.prog 47 #[.pointer (some ⟨db, 0, none⟩), Sv nm] u fun e w' => e = .returned .nilIface ∧ ∃ L', DiskAt w' W00.heap.size db (sgD nm F.sync (ops + 1) ahead parts cut (room + 1)) L' ∧ (∀ k ∈ L', k ∈ Ld ∨ u.heap.size ≤ k) ∧ Touch u w' Ld := fun u uu => by
    refine (DiskSync_any W00 db _ Ld u ad nm 0 F (h.dsk.up uu) (h.up.trans uu) hk.er rfl (sgD_ok nm F hF ops ahead parts cut room hr1 hr2 hr3) (by show room ≤ _; omega) (sgD_seen _ _ _ _ _ _ _) rfl hF (by unfold CB; omega) (by unfold maxLen; omega)).mono ?_
    rintro e w1 ⟨rfl, L', d1, d2, d3⟩
    rw [sg_sync nm F ops ahead parts cut room hf] at d1
    rw [hf]
    exact ⟨rfl, L', d1, d2, d3⟩
  have hr := sready_ok sb db nm next blocks whole w h.box
  have HA : Hid (∀ u, Up w u → Calls Tryz.prog 47 #[.pointer (some ⟨db, 0, none⟩), Sv nm] u fun e w' => e = .returned .nilIface ∧ ∃ L', DiskAt w' W00.heap.size db (sgD nm F.sync (ops + 1) ahead parts cut (room + 1)) L' ∧ (∀ k ∈ L', k ∈ Ld ∨ u.heap.size ≤ k) ∧ Touch u w' Ld) := hap
  have HH : Hid (SgAt W00 w db sb nm next blocks whole false (sgD nm F ops ahead parts cut room) Ld) := h
  have bx := h.box
  clear h hk hf hF hr1 hr2 hr3 hr4 hsz hnm hap
  go_enter Tryz.func19, Tryz.ntmps19
  go_wp2_with fail
  refine hr.mono ?_
  rintro e w1 ⟨rfl, hw⟩
  obtain rfl : w = w1 := hw.symm
  clear hr
  go_wp2_with fail
  have hs : ∃ s, Box w.drew sb (scells db nm next blocks whole s) := ⟨false, bx.up (Up.drew w)⟩
  have s0 : ∀ u, (∃ s, Box u sb (scells db nm next blocks whole s)) → u.cell? ⟨sb, 0, none⟩ = some (.pointer (some ⟨db, 0, none⟩)) ∧ u.cell? ⟨sb, 1, none⟩ = some (Sv nm) := fun u hu => by obtain ⟨s, hb⟩ := hu; exact ⟨hb.cell 0, hb.cell 1⟩
  refine wp_region_held_drew (S := fun u => ∃ s, Box u sb (scells db nm next blocks whole s)) (by kernel_rfl) hs (fun hs0 => ?_)
  refine take_to (some 9) (i := 0) (v := .pointer (some ⟨sb, 0, none⟩)) rfl rfl (by kernel_rfl) (by kernel_rfl) (by kernel_rfl) (fun _ _ _ h => h) (Or.inl ⟨by kernel_rfl, by intro u hSu; go_simp⟩) hs ?_
  simp only [Act.put, List.setIfInBounds_toArray, List.set_cons_zero, List.set_cons_succ]
  refine take_to (some 10) (i := 1) (v := .pointer (some ⟨sb, 0, none⟩)) rfl rfl (by kernel_rfl) (by kernel_rfl) (by kernel_rfl) (fun _ _ _ h => h) (Or.inl ⟨by kernel_rfl, by intro u hSu; go_simp⟩) hs ?_
  simp only [Act.put, List.setIfInBounds_toArray, List.set_cons_zero, List.set_cons_succ]
  refine take_to (some 11) (i := 2) (v := .pointer (some ⟨sb, 0, none⟩)) rfl rfl (by kernel_rfl) (by kernel_rfl) (by kernel_rfl) (fun _ _ _ h => h) (Or.inl ⟨by kernel_rfl, by intro u hSu; go_simp⟩) hs ?_
  simp only [Act.put, List.setIfInBounds_toArray, List.set_cons_zero, List.set_cons_succ]
  refine take_to (some 12) (i := 3) (v := .pointer (some ⟨sb, 0, none⟩)) rfl rfl (by kernel_rfl) (by kernel_rfl) (by kernel_rfl) (fun _ _ _ h => h) (Or.inl ⟨by kernel_rfl, by intro u hSu; go_simp⟩) hs ?_
  simp only [Act.put, List.setIfInBounds_toArray, List.set_cons_zero, List.set_cons_succ]
  refine take_to (some 13) (i := 4) (v := .pointer (some ⟨db, 0, none⟩)) rfl rfl (by kernel_rfl) (by kernel_rfl) (by kernel_rfl) (fun _ _ _ h => h) (Or.inl ⟨by kernel_rfl, by intro u hSu; have q0 := (s0 u hSu).1; go_simp⟩) hs ?_
  simp only [Act.put, List.setIfInBounds_toArray, List.set_cons_zero, List.set_cons_succ]
  refine take_to (some 14) (i := 5) (v := .pointer (some ⟨sb, 0, none⟩)) rfl rfl (by kernel_rfl) (by kernel_rfl) (by kernel_rfl) (fun _ _ _ h => h) (Or.inl ⟨by kernel_rfl, by intro u hSu; go_simp⟩) hs ?_
  simp only [Act.put, List.setIfInBounds_toArray, List.set_cons_zero, List.set_cons_succ]
  refine take_to (some 15) (i := 6) (v := .pointer (some ⟨sb, 0, none⟩)) rfl rfl (by kernel_rfl) (by kernel_rfl) (by kernel_rfl) (fun _ _ _ h => h) (Or.inl ⟨by kernel_rfl, by intro u hSu; go_simp⟩) hs ?_
  simp only [Act.put, List.setIfInBounds_toArray, List.set_cons_zero, List.set_cons_succ]
  refine take_to (some 16) (i := 7) (v := .pointer (some ⟨sb, 1, none⟩)) rfl rfl (by kernel_rfl) (by kernel_rfl) (by kernel_rfl) (fun _ _ _ h => h) (Or.inl ⟨by kernel_rfl, by intro u hSu; go_simp⟩) hs ?_
  simp only [Act.put, List.setIfInBounds_toArray, List.set_cons_zero, List.set_cons_succ]
  refine take_to (some 17) (i := 8) (v := Sv nm) rfl rfl (by kernel_rfl) (by kernel_rfl) (by kernel_rfl) (fun _ _ _ h => h) (Or.inl ⟨by kernel_rfl, by intro u hSu; have q0 := (s0 u hSu).2; go_simp⟩) hs ?_
  simp only [Act.put, List.setIfInBounds_toArray, List.set_cons_zero, List.set_cons_succ]
  refine wpAnyH_ready (rs := [9]) (by kernel_rfl) (by simp) ?_
  refine AllReadyH.cons rfl (fun K hK => ?_) AllReadyH.nil
  go_simp
  refine (HA.out w.drew (Up.drew w)).mono ?_
  rintro e w3 ⟨rfl, L', d1, d2, d3⟩
  have b3 : Box w3 sb (scells db nm next blocks whole false) := d3.box (bx.up (Up.drew w)) HH.out.ns
  refine hK.out _ _ ⟨false, b3⟩ (fun _ => ?_)
  clear hK K
  refine wpAnyH_ready (rs := [10]) (by kernel_rfl) (by simp) ?_
  refine AllReadyH.cons rfl (fun K hK => ?_) AllReadyH.nil
  go_simp
  refine (meet_nil sb w3).mono ?_
  rintro e w4 ⟨rfl, hw4⟩
  have b4 : Box w4 sb (scells db nm next blocks whole false) := by rw [hw4]; exact b3
  have t4 : Touch w3 w4 [sb] := by rw [hw4]; exact Touch.refl _ _
  clear hw4
  refine hK.out _ _ ⟨_, b4⟩ (fun _ => ?_)
  clear hK K
  refine wpAnyH_ready (rs := [11]) (by kernel_rfl) (by simp) ?_
  refine AllReadyH.cons rfl (fun K hK => ?_) AllReadyH.nil
  go_simp
  refine hK.out _ _ ⟨_, b4⟩ (fun _ => ?_)
  clear hK K
  refine wpAnyH_done (by kernel_rfl) ?_ _
  have H3 : Hid (DiskAt w3 W00.heap.size db (sgD nm F.sync (ops + 1) ahead parts cut (room + 1)) L' ∧ (∀ k ∈ L', k ∈ Ld ∨ w.drew.heap.size ≤ k) ∧ Touch w.drew w3 Ld ∧ Touch w3 w4 [sb] ∧ Box w4 sb (scells db nm next blocks whole false)) := ⟨d1, d2, d3, t4, b4⟩
  clear d1 d2 d3 b3 b4 bx hs hs0 s0 t4
  go_wp2
  go_ret
  obtain ⟨d1, d2, d3, t4, b4⟩ := H3.out
  have h := HH.out
  have uw := Up.drew w
  have hns : sb ∉ L' := fun hm => by
    rcases d2 sb hm with q1 | q1
    · exact h.ns q1
    · have := h.box.lt; have := uw.size; omega
  have tt : Touch w w4 (sb :: Ld) := ((Touch.of_up uw (sb :: Ld)).trans d3 (fun k hk => .inl (List.mem_cons_of_mem _ hk))).trans t4 (fun k hk => .inl (by simp at hk; simp [hk]))
  refine ⟨L', rfl, ⟨b4, d1.kept t4 (fun k hk hm => hns (by simp at hm; subst hm; exact hk)), hns, h.new, Touch.up_of h.up tt (fun k hk => ?_)⟩, fun k hk => (d2 k hk).imp id (fun q1 => Nat.le_trans uw.size q1), tt⟩
  rcases List.mem_cons.1 hk with rfl | q1
  · exact h.new
  · exact h.dsk.ge k q1

set_option maxRecDepth 20000 in
set_option maxHeartbeats 800000 in
theorem SegSync_fails (W00 w : World) (db sb : Nat) (nm : Nm) (next blocks : Nat) (whole : Bool) (F : Fil) (ops ahead : Nat) (parts : Int → Option Int) (cut : Int) (room : Nat) (Ld : List Nat) (ad : Nat → Addr) (q0 : Int) (h : SgAt W00 w db sb nm next blocks whole false (sgD nm F ops ahead parts cut room) Ld) (hk : Ks W00 ad)
    (hf : (sgD nm F ops ahead parts cut room).fate = .fails q0) (hF : F.Ok) (hr1 : 1 ≤ room) (hr2 : ops ≤ room) (hr3 : ahead ≤ ops) (hr4 : room ≤ 100000000) (hsz : F.seen.data.length ≤ 1000000000000) (hnm : nm.length ≤ 64) :
    Calls Tryz.prog 19 #[.pointer (some ⟨sb, 0, none⟩)] w fun e w' => ∃ L', e = .returned (E (ad 0)) ∧ SgAt W00 w' db sb nm next blocks whole true (sgD nm F (ops + 1) ahead parts cut (room + 1)) L' ∧ (∀ k ∈ L', k ∈ Ld ∨ w.heap.size ≤ k) ∧ Touch w w' (sb :: Ld) := by
  have hap : ∀ u, Up w u → Calls Tryz.prog 47 #[.pointer (some ⟨db, 0, none⟩), Sv nm] u fun e w' => e = .returned (E (ad 0)) ∧ ∃ L', DiskAt w' W00.heap.size db (sgD nm F (ops + 1) ahead parts cut (room + 1)) L' ∧ (∀ k ∈ L', k ∈ Ld ∨ u.heap.size ≤ k) ∧ Touch u w' Ld := fun u uu => by
    refine (DiskSync_any W00 db _ Ld u ad nm 0 F (h.dsk.up uu) (h.up.trans uu) hk.er rfl (sgD_ok nm F hF ops ahead parts cut room hr1 hr2 hr3) (by show room ≤ _; omega) (sgD_seen _ _ _ _ _ _ _) rfl hF (by unfold CB; omega) (by unfold maxLen; omega)).mono ?_
    rintro e w1 ⟨rfl, L', d1, d2, d3⟩
    rw [sg_syncF nm F q0 ops ahead parts cut room hf] at d1
    rw [hf]
    exact ⟨rfl, L', d1, d2, d3⟩
  have hr := sready_ok sb db nm next blocks whole w h.box
  have HA : Hid (∀ u, Up w u → Calls Tryz.prog 47 #[.pointer (some ⟨db, 0, none⟩), Sv nm] u fun e w' => e = .returned (E (ad 0)) ∧ ∃ L', DiskAt w' W00.heap.size db (sgD nm F (ops + 1) ahead parts cut (room + 1)) L' ∧ (∀ k ∈ L', k ∈ Ld ∨ u.heap.size ≤ k) ∧ Touch u w' Ld) := hap
  have HH : Hid (SgAt W00 w db sb nm next blocks whole false (sgD nm F ops ahead parts cut room) Ld) := h
  have bx := h.box
  clear h hk hf hF hr1 hr2 hr3 hr4 hsz hnm hap
  go_enter Tryz.func19, Tryz.ntmps19
  go_wp2_with fail
  refine hr.mono ?_
  rintro e w1 ⟨rfl, hw⟩
  obtain rfl : w = w1 := hw.symm
  clear hr
  go_wp2_with fail
  have hs : ∃ s, Box w.drew sb (scells db nm next blocks whole s) := ⟨false, bx.up (Up.drew w)⟩
  have s0 : ∀ u, (∃ s, Box u sb (scells db nm next blocks whole s)) → u.cell? ⟨sb, 0, none⟩ = some (.pointer (some ⟨db, 0, none⟩)) ∧ u.cell? ⟨sb, 1, none⟩ = some (Sv nm) := fun u hu => by obtain ⟨s, hb⟩ := hu; exact ⟨hb.cell 0, hb.cell 1⟩
  refine wp_region_held_drew (S := fun u => ∃ s, Box u sb (scells db nm next blocks whole s)) (by kernel_rfl) hs (fun hs0 => ?_)
  refine take_to (some 9) (i := 0) (v := .pointer (some ⟨sb, 0, none⟩)) rfl rfl (by kernel_rfl) (by kernel_rfl) (by kernel_rfl) (fun _ _ _ h => h) (Or.inl ⟨by kernel_rfl, by intro u hSu; go_simp⟩) hs ?_
  simp only [Act.put, List.setIfInBounds_toArray, List.set_cons_zero, List.set_cons_succ]
  refine take_to (some 10) (i := 1) (v := .pointer (some ⟨sb, 0, none⟩)) rfl rfl (by kernel_rfl) (by kernel_rfl) (by kernel_rfl) (fun _ _ _ h => h) (Or.inl ⟨by kernel_rfl, by intro u hSu; go_simp⟩) hs ?_
  simp only [Act.put, List.setIfInBounds_toArray, List.set_cons_zero, List.set_cons_succ]
  refine take_to (some 11) (i := 2) (v := .pointer (some ⟨sb, 0, none⟩)) rfl rfl (by kernel_rfl) (by kernel_rfl) (by kernel_rfl) (fun _ _ _ h => h) (Or.inl ⟨by kernel_rfl, by intro u hSu; go_simp⟩) hs ?_
  simp only [Act.put, List.setIfInBounds_toArray, List.set_cons_zero, List.set_cons_succ]
  refine take_to (some 12) (i := 3) (v := .pointer (some ⟨sb, 0, none⟩)) rfl rfl (by kernel_rfl) (by kernel_rfl) (by kernel_rfl) (fun _ _ _ h => h) (Or.inl ⟨by kernel_rfl, by intro u hSu; go_simp⟩) hs ?_
  simp only [Act.put, List.setIfInBounds_toArray, List.set_cons_zero, List.set_cons_succ]
  refine take_to (some 13) (i := 4) (v := .pointer (some ⟨db, 0, none⟩)) rfl rfl (by kernel_rfl) (by kernel_rfl) (by kernel_rfl) (fun _ _ _ h => h) (Or.inl ⟨by kernel_rfl, by intro u hSu; have q0 := (s0 u hSu).1; go_simp⟩) hs ?_
  simp only [Act.put, List.setIfInBounds_toArray, List.set_cons_zero, List.set_cons_succ]
  refine take_to (some 14) (i := 5) (v := .pointer (some ⟨sb, 0, none⟩)) rfl rfl (by kernel_rfl) (by kernel_rfl) (by kernel_rfl) (fun _ _ _ h => h) (Or.inl ⟨by kernel_rfl, by intro u hSu; go_simp⟩) hs ?_
  simp only [Act.put, List.setIfInBounds_toArray, List.set_cons_zero, List.set_cons_succ]
  refine take_to (some 15) (i := 6) (v := .pointer (some ⟨sb, 0, none⟩)) rfl rfl (by kernel_rfl) (by kernel_rfl) (by kernel_rfl) (fun _ _ _ h => h) (Or.inl ⟨by kernel_rfl, by intro u hSu; go_simp⟩) hs ?_
  simp only [Act.put, List.setIfInBounds_toArray, List.set_cons_zero, List.set_cons_succ]
  refine take_to (some 16) (i := 7) (v := .pointer (some ⟨sb, 1, none⟩)) rfl rfl (by kernel_rfl) (by kernel_rfl) (by kernel_rfl) (fun _ _ _ h => h) (Or.inl ⟨by kernel_rfl, by intro u hSu; go_simp⟩) hs ?_
  simp only [Act.put, List.setIfInBounds_toArray, List.set_cons_zero, List.set_cons_succ]
  refine take_to (some 17) (i := 8) (v := Sv nm) rfl rfl (by kernel_rfl) (by kernel_rfl) (by kernel_rfl) (fun _ _ _ h => h) (Or.inl ⟨by kernel_rfl, by intro u hSu; have q0 := (s0 u hSu).2; go_simp⟩) hs ?_
  simp only [Act.put, List.setIfInBounds_toArray, List.set_cons_zero, List.set_cons_succ]
  refine wpAnyH_ready (rs := [9]) (by kernel_rfl) (by simp) ?_
  refine AllReadyH.cons rfl (fun K hK => ?_) AllReadyH.nil
  go_simp
  refine (HA.out w.drew (Up.drew w)).mono ?_
  rintro e w3 ⟨rfl, L', d1, d2, d3⟩
  have b3 : Box w3 sb (scells db nm next blocks whole false) := d3.box (bx.up (Up.drew w)) HH.out.ns
  refine hK.out _ _ ⟨false, b3⟩ (fun _ => ?_)
  clear hK K
  refine wpAnyH_ready (rs := [10]) (by kernel_rfl) (by simp) ?_
  refine AllReadyH.cons rfl (fun K hK => ?_) AllReadyH.nil
  go_simp
  refine (meet_err sb db nm next blocks whole false (ad 0) w3 b3).mono ?_
  rintro e w4 ⟨rfl, b4, t4⟩
  refine hK.out _ _ ⟨_, b4⟩ (fun _ => ?_)
  clear hK K
  refine wpAnyH_ready (rs := [11]) (by kernel_rfl) (by simp) ?_
  refine AllReadyH.cons rfl (fun K hK => ?_) AllReadyH.nil
  go_simp
  refine hK.out _ _ ⟨_, b4⟩ (fun _ => ?_)
  clear hK K
  refine wpAnyH_done (by kernel_rfl) ?_ _
  have H3 : Hid (DiskAt w3 W00.heap.size db (sgD nm F (ops + 1) ahead parts cut (room + 1)) L' ∧ (∀ k ∈ L', k ∈ Ld ∨ w.drew.heap.size ≤ k) ∧ Touch w.drew w3 Ld ∧ Touch w3 w4 [sb] ∧ Box w4 sb (scells db nm next blocks whole true)) := ⟨d1, d2, d3, t4, b4⟩
  clear d1 d2 d3 b3 b4 bx hs hs0 s0 t4
  go_wp2
  go_ret
  obtain ⟨d1, d2, d3, t4, b4⟩ := H3.out
  have h := HH.out
  have uw := Up.drew w
  have hns : sb ∉ L' := fun hm => by
    rcases d2 sb hm with q1 | q1
    · exact h.ns q1
    · have := h.box.lt; have := uw.size; omega
  have tt : Touch w w4 (sb :: Ld) := ((Touch.of_up uw (sb :: Ld)).trans d3 (fun k hk => .inl (List.mem_cons_of_mem _ hk))).trans t4 (fun k hk => .inl (by simp at hk; simp [hk]))
  refine ⟨L', rfl, ⟨b4, d1.kept t4 (fun k hk hm => hns (by simp at hm; subst hm; exact hk)), hns, h.new, Touch.up_of h.up tt (fun k hk => ?_)⟩, fun k hk => (d2 k hk).imp id (fun q1 => Nat.le_trans uw.size q1), tt⟩
  rcases List.mem_cons.1 hk with rfl | q1
  · exact h.new
  · exact h.dsk.ge k q1

end Go.Proofs.YtkfjkfpodkbkaaaGreatDoor
