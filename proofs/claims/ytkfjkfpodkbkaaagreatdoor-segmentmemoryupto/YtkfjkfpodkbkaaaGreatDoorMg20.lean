/- Merged: DkOp4, DkOp5. -/
import Derived.Test.YtkfjkfpodkbkaaaGreatDoorMg19
import Derived.Test.YtkfjkfpodkbkaaaGreatDoorMg11
set_option linter.unusedVariables false
set_option linter.unusedSimpArgs false
namespace Go.Proofs.YtkfjkfpodkbkaaaGreatDoor
open Go Go.RowKit Go.Maps

theorem Sl.front {base : Nat} {w : World} {ao : Option Addr} {cap : Nat} {bs : List UInt8} (h : Sl base w (.slice ao bs.length cap) bs) (n : Nat) (hn : n ≤ bs.length) : Sl base w (.slice ao (bs.take n).length cap) (bs.take n) := by
  obtain ⟨ao', cap', e, hc, hnn, hx⟩ := h
  obtain ⟨rfl, _, rfl⟩ : ao = ao' ∧ True ∧ cap = cap' := by simpa using e
  refine ⟨ao, cap, rfl, by rw [List.length_take]; omega, hnn, fun hb => ?_⟩
  obtain ⟨b, o, rfl, hbb, ha⟩ := hx (by rintro rfl; simp at hb)
  refine ⟨b, o, rfl, hbb, fun j hj => ?_⟩
  have hj2 : j < bs.length := by rw [List.length_take] at hj; omega
  rw [ha j hj2, List.getElem_take]

set_option maxRecDepth 20000 in
set_option maxHeartbeats 800000 in
theorem append3_any (kd kn kv : Nat) (base db : Nat) (D : Dsk) (bs bf : Nat) (vch : Value) (mp : Option Nat) (fl : Fls) (w : World) (x : Nm) (i : Nat) (F : Fil) (vx : Value) (d : List UInt8) (q : Int) (h : DiskV w base db D bs bf vch mp fl)
    (cd : w.cell? ⟨kd, 0, none⟩ = some (.pointer (some ⟨db, 0, none⟩))) (cn : w.cell? ⟨kn, 0, none⟩ = some (Sv x)) (cv : w.cell? ⟨kv, 0, none⟩ = some vx)
    (hx : D.seen x = some i) (hi : D.fs[i]? = some F) (hF : F.Ok) (hbase : base ≤ w.heap.size) (hs : Sl 0 w vx d) (hsn : d ≠ [] → ∀ k, vx.ownBlock = some k → k ∉ dl db bs bf vch mp fl) (hl : F.seen.data.length + d.length ≤ CB) (hlx : x.length ≤ maxLen) (hkd : kd ∉ dl db bs bf vch mp fl) (hkn : kn ∉ dl db bs bf vch mp fl) (hkv : kv ∉ dl db bs bf vch mp fl) (hq : -9223372036854775808 ≤ q ∧ q ≤ 9223372036854775807) :
    Calls Tryz.prog 69 #[.int .i64 q, .pointer (some ⟨kd, 0, none⟩), .pointer (some ⟨kn, 0, none⟩), .pointer (some ⟨kv, 0, none⟩)] w fun e w' => e = .returned (.tuple #[]) ∧ FileDone w base db D i (·.add (partOf q d)) (dl db bs bf vch mp fl) w' := by
  obtain ⟨L, hp, hfa⟩ := h.file hi
  have hLin : ∀ k ∈ L, k ∈ dl db bs bf vch mp fl := fun k hk => by
    have : k ∈ fl.flatMap (·.2) := List.mem_flatMap.2 ⟨_, List.mem_of_getElem? hp, hk⟩
    simp [this]
  have hs9 := hs
  obtain ⟨ao, cap, rfl, _⟩ := hs9
  obtain ⟨N, hN⟩ : ∃ N : Nat, (max 0 (min q (d.length : Int))).toNat = N := ⟨_, rfl⟩
  have hN2 : max 0 (min q (d.length : Int)) = (N : Int) := by omega
  have hNl : N ≤ d.length := by omega
  have hpart : partOf q d = d.take N := by rw [← hN]; rfl
  have hfr := hs.front N hNl
  have hcapd : d.length ≤ cap := by obtain ⟨_, _, e, hc, _⟩ := hs; simp at e; omega
  have hlt := d.length
  have hadd : ∀ u, Up w u → Calls Tryz.prog 68 #[.pointer (some ⟨blk fl i, 0, none⟩), .slice ao N cap] u fun e w' => ∃ L', e = .returned (.tuple #[]) ∧ FileAt w' base (blk fl i) ((i : Int) + 1) (F.add (partOf q d)) L' ∧ (∀ k ∈ L', k ∈ L ∨ u.heap.size ≤ k) ∧ Touch u w' L := fun u uu => by
    have := add_any base (blk fl i) ((i : Int) + 1) F L (.slice ao (d.take N).length cap) (d.take N) u (hfa.kept (Touch.of_up uu []) (fun _ _ => by simp)) hF (Nat.le_trans hbase uu.size) (hfr.up uu) (fun hne k hk hm => hsn (by rintro rfl; simp at hne) k (by cases ao <;> exact hk) (hLin k hm)) (by rw [List.length_take]; omega)
    rw [hpart]
    rwa [List.length_take, Nat.min_eq_left hNl] at this
  have hnL := h.apart hp
  obtain ⟨P, hP⟩ : ∃ P : World → Prop, P = fun u => u.cell? ⟨kd, 0, none⟩ = some (.pointer (some ⟨db, 0, none⟩)) ∧ u.cell? ⟨kn, 0, none⟩ = some (Sv x) ∧ u.cell? ⟨kv, 0, none⟩ = some (.slice ao d.length cap) ∧ u.cell? ⟨db, 0, none⟩ = some (.map (some bs)) ∧ MapIs u bs D.room (nmap fl D.seen) := ⟨_, rfl⟩
  have p0 : P w := by rw [hP]; exact ⟨cd, cn, cv, h.box.cell 0, h.see⟩
  have pk : ∀ {u u' : World}, P u → Touch u u' L → P u' := by
    intro u u' hu t
    rw [hP] at hu ⊢
    obtain ⟨q1, q2, q3, q4, q5⟩ := hu
    refine ⟨?_, ?_, ?_, ?_, q5.kept t (hnL bs (by simp))⟩
    · rw [World.cell?_of_block (t.block kd (World.block_lt_of_cell? u _ q1) (fun e => hkd (hLin _ e)))]; exact q1
    · rw [World.cell?_of_block (t.block kn (World.block_lt_of_cell? u _ q2) (fun e => hkn (hLin _ e)))]; exact q2
    · rw [World.cell?_of_block (t.block kv (World.block_lt_of_cell? u _ q3) (fun e => hkv (hLin _ e)))]; exact q3
    · rw [World.cell?_of_block (t.block db (World.block_lt_of_cell? u _ q4) (hnL db (by simp)))]; exact q4
  have pc : ∀ u, P u → u.cell? ⟨kd, 0, none⟩ = some (.pointer (some ⟨db, 0, none⟩)) ∧ u.cell? ⟨kn, 0, none⟩ = some (Sv x) ∧ u.cell? ⟨kv, 0, none⟩ = some (.slice ao d.length cap) ∧ u.cell? ⟨db, 0, none⟩ = some (.map (some bs)) := fun u hu => by rw [hP] at hu; exact ⟨hu.1, hu.2.1, hu.2.2.1, hu.2.2.2.1⟩
  have klk : ∀ u, P u → (Instr.lookup 79 (.map (some bs)) (Sv x) false).run Tryz.prog u = .ok (.pointer (some ⟨blk fl i, 0, none⟩)) u := fun u hu => by
    rw [hP] at hu
    have hlook := hu.2.2.2.2.look hlx
    rwa [show nmap fl D.seen x = some (blk fl i) by simp [nmap, hx]] at hlook
  have hpd : P w.drew := pk p0 (Touch.of_up (Up.drew w) L)
  obtain ⟨M, hM⟩ : ∃ M : Int, min q (d.length : Int) = M := ⟨_, rfl⟩
  rw [hM] at hN2
  have HH : Hid (DiskV w base db D bs bf vch mp fl ∧ D.fs[i]? = some F ∧ fl[i]? = some (blk fl i, L) ∧ base ≤ w.heap.size) := ⟨h, hi, hp, hbase⟩
  have HA : Hid (∀ u, Up w u → Calls Tryz.prog 68 #[.pointer (some ⟨blk fl i, 0, none⟩), .slice ao N cap] u fun e w' => ∃ L', e = .returned (.tuple #[]) ∧ FileAt w' base (blk fl i) ((i : Int) + 1) (F.add (partOf q d)) L' ∧ (∀ k ∈ L', k ∈ L ∨ u.heap.size ≤ k) ∧ Touch u w' L) := hadd
  have hnl : (N : Int) ≤ (d.length : Int) := by omega
  have hnc : (N : Int) ≤ (cap : Int) := by omega
  clear h hi hp hbase hs hsn hF hl hfa hLin hx cd cn cv hadd hN hpart hfr hP p0 hnL hkd hkn hkv
  go_enter Tryz.func69, Tryz.ntmps69
  have hs : P w.drew := hpd
  refine wp_region_held_drew (S := P) (by kernel_rfl) hs (fun hs0 => ?_)
  refine take_to (some 5) (i := 0) (v := .pointer (some ⟨db, 0, none⟩)) rfl rfl (by kernel_rfl) (by kernel_rfl) (by kernel_rfl) (fun _ _ _ h => h) (Or.inl ⟨by kernel_rfl, by intro u hSu; have q0 := (pc u hSu).1; go_simp⟩) hs ?_
  simp only [Act.put, List.setIfInBounds_toArray, List.set_cons_zero, List.set_cons_succ]
  refine take_to (some 6) (i := 1) (v := .pointer (some ⟨db, 0, none⟩)) rfl rfl (by kernel_rfl) (by kernel_rfl) (by kernel_rfl) (fun _ _ _ h => h) (Or.inl ⟨by kernel_rfl, by intro u hSu; go_simp⟩) hs ?_
  simp only [Act.put, List.setIfInBounds_toArray, List.set_cons_zero, List.set_cons_succ]
  refine take_to (some 7) (i := 2) (v := .pointer (some ⟨db, 0, none⟩)) rfl rfl (by kernel_rfl) (by kernel_rfl) (by kernel_rfl) (fun _ _ _ h => h) (Or.inl ⟨by kernel_rfl, by intro u hSu; go_simp⟩) hs ?_
  simp only [Act.put, List.setIfInBounds_toArray, List.set_cons_zero, List.set_cons_succ]
  refine take_to (some 8) (i := 3) (v := .map (some bs)) rfl rfl (by kernel_rfl) (by kernel_rfl) (by kernel_rfl) (fun _ _ _ h => h) (Or.inl ⟨by kernel_rfl, by intro u hSu; have q0 := (pc u hSu).2.2.2; go_simp⟩) hs ?_
  simp only [Act.put, List.setIfInBounds_toArray, List.set_cons_zero, List.set_cons_succ]
  refine take_to (some 9) (i := 4) (v := Sv x) rfl rfl (by kernel_rfl) (by kernel_rfl) (by kernel_rfl) (fun _ _ _ h => h) (Or.inl ⟨by kernel_rfl, by intro u hSu; have q0 := (pc u hSu).2.1; go_simp⟩) hs ?_
  simp only [Act.put, List.setIfInBounds_toArray, List.set_cons_zero, List.set_cons_succ]
  refine take_to (some 10) (i := 5) (v := .pointer (some ⟨blk fl i, 0, none⟩)) rfl rfl (by kernel_rfl) (by kernel_rfl) (by kernel_rfl) (fun _ _ _ h => h) (Or.inl ⟨by kernel_rfl, by intro u hSu; have q0 := klk u hSu; go_simp⟩) hs ?_
  simp only [Act.put, List.setIfInBounds_toArray, List.set_cons_zero, List.set_cons_succ]
  refine take_to (some 11) (i := 6) (v := .slice ao d.length cap) rfl rfl (by kernel_rfl) (by kernel_rfl) (by kernel_rfl) (fun _ _ _ h => h) (Or.inl ⟨by kernel_rfl, by intro u hSu; have q0 := (pc u hSu).2.2.1; go_simp⟩) hs ?_
  simp only [Act.put, List.setIfInBounds_toArray, List.set_cons_zero, List.set_cons_succ]
  refine take_to (some 12) (i := 7) (v := .int .i64 q) rfl rfl (by kernel_rfl) (by kernel_rfl) (by kernel_rfl) (fun _ _ _ h => h) (Or.inl ⟨by kernel_rfl, by intro u hSu; go_simp⟩) hs ?_
  simp only [Act.put, List.setIfInBounds_toArray, List.set_cons_zero, List.set_cons_succ]
  refine take_to (some 13) (i := 8) (v := .slice ao d.length cap) rfl rfl (by kernel_rfl) (by kernel_rfl) (by kernel_rfl) (fun _ _ _ h => h) (Or.inl ⟨by kernel_rfl, by intro u hSu; have q0 := (pc u hSu).2.2.1; go_simp⟩) hs ?_
  simp only [Act.put, List.setIfInBounds_toArray, List.set_cons_zero, List.set_cons_succ]
  refine take_to (some 14) (i := 9) (v := .int .i64 (d.length : Int)) rfl rfl (by kernel_rfl) (by kernel_rfl) (by kernel_rfl) (fun _ _ _ h => h) (Or.inl ⟨by kernel_rfl, by intro u hSu; go_simp⟩) hs ?_
  simp only [Act.put, List.setIfInBounds_toArray, List.set_cons_zero, List.set_cons_succ]
  refine take_to (some 15) (i := 10) (v := .int .i64 M) rfl rfl (by kernel_rfl) (by kernel_rfl) (by kernel_rfl) (fun _ _ _ h => h) (Or.inl ⟨by kernel_rfl, by intro u hSu; go_simp⟩) hs ?_
  simp only [Act.put, List.setIfInBounds_toArray, List.set_cons_zero, List.set_cons_succ]
  refine take_to (some 16) (i := 11) (v := .int .i64 (N : Int)) rfl rfl (by kernel_rfl) (by kernel_rfl) (by kernel_rfl) (fun _ _ _ h => h) (Or.inl ⟨by kernel_rfl, by intro u hSu; go_simp⟩) hs ?_
  simp only [Act.put, List.setIfInBounds_toArray, List.set_cons_zero, List.set_cons_succ]
  refine take_to (some 17) (i := 12) (v := .slice ao N cap) rfl rfl (by kernel_rfl) (by kernel_rfl) (by kernel_rfl) (fun _ _ _ h => h) (Or.inl ⟨by kernel_rfl, by intro u hSu; go_simp⟩) hs ?_
  simp only [Act.put, List.setIfInBounds_toArray, List.set_cons_zero, List.set_cons_succ]
  refine wpAnyH_ready (rs := [13]) (by kernel_rfl) (by simp) ?_
  refine AllReadyH.cons rfl (fun K hK => ?_) AllReadyH.nil
  go_simp
  refine (HA.out _ (Up.drew w)).mono ?_
  rintro e w1 ⟨L', rfl, hf1, hn1, t1⟩
  refine hK.out _ _ (pk hs t1) (fun _ => ?_)
  clear hK K
  refine wpAnyH_done (by kernel_rfl) ?_ _
  go_wp2
  go_end0
  obtain ⟨h, hi, hp, hbase⟩ := HH.out
  exact ⟨rfl, h.done hi hp hf1 hn1 ((Touch.of_up (Up.drew w) L).trans t1 (fun k hk => .inl hk)) hbase⟩

set_option maxRecDepth 20000 in
set_option maxHeartbeats 800000 in
theorem sync2_any (kd kn : Nat) (base db : Nat) (D : Dsk) (bs bf : Nat) (vch : Value) (mp : Option Nat) (fl : Fls) (w : World) (x : Nm) (i : Nat) (F : Fil) (h : DiskV w base db D bs bf vch mp fl)
    (cd : w.cell? ⟨kd, 0, none⟩ = some (.pointer (some ⟨db, 0, none⟩))) (cn : w.cell? ⟨kn, 0, none⟩ = some (Sv x))
    (hx : D.seen x = some i) (hi : D.fs[i]? = some F) (hF : F.Ok) (hbase : base ≤ w.heap.size) (hl : F.seen.data.length ≤ CB) (hlx : x.length ≤ maxLen) (hkd : kd ∉ dl db bs bf vch mp fl) (hkn : kn ∉ dl db bs bf vch mp fl) :
    Calls Tryz.prog 91 #[.pointer (some ⟨kd, 0, none⟩), .pointer (some ⟨kn, 0, none⟩)] w fun e w' => e = .returned (.tuple #[]) ∧ FileDone w base db D i (·.sync) (dl db bs bf vch mp fl) w' := by
  obtain ⟨L, hp, hfa⟩ := h.file hi
  have hLin : ∀ k ∈ L, k ∈ dl db bs bf vch mp fl := fun k hk => by
    have : k ∈ fl.flatMap (·.2) := List.mem_flatMap.2 ⟨_, List.mem_of_getElem? hp, hk⟩
    simp [this]
  have hadd : ∀ u, Up w u → Calls Tryz.prog 92 #[.pointer (some ⟨blk fl i, 0, none⟩)] u fun e w' => ∃ L', e = .returned (.tuple #[]) ∧ FileAt w' base (blk fl i) ((i : Int) + 1) (F.sync) L' ∧ (∀ k ∈ L', k ∈ L ∨ u.heap.size ≤ k) ∧ Touch u w' L := fun u uu => by
    exact sync_any base (blk fl i) ((i : Int) + 1) F L u (hfa.kept (Touch.of_up uu []) (fun _ _ => by simp)) hF (Nat.le_trans hbase uu.size) hl
  have hnL := h.apart hp
  obtain ⟨P, hP⟩ : ∃ P : World → Prop, P = fun u => u.cell? ⟨kd, 0, none⟩ = some (.pointer (some ⟨db, 0, none⟩)) ∧ u.cell? ⟨kn, 0, none⟩ = some (Sv x) ∧ u.cell? ⟨db, 0, none⟩ = some (.map (some bs)) ∧ MapIs u bs D.room (nmap fl D.seen) := ⟨_, rfl⟩
  have p0 : P w := by rw [hP]; exact ⟨cd, cn, h.box.cell 0, h.see⟩
  have pk : ∀ {u u' : World}, P u → Touch u u' L → P u' := by
    intro u u' hu t
    rw [hP] at hu ⊢
    obtain ⟨q1, q2, q4, q5⟩ := hu
    refine ⟨?_, ?_, ?_, q5.kept t (hnL bs (by simp))⟩
    · rw [World.cell?_of_block (t.block kd (World.block_lt_of_cell? u _ q1) (fun e => hkd (hLin _ e)))]; exact q1
    · rw [World.cell?_of_block (t.block kn (World.block_lt_of_cell? u _ q2) (fun e => hkn (hLin _ e)))]; exact q2
    · rw [World.cell?_of_block (t.block db (World.block_lt_of_cell? u _ q4) (hnL db (by simp)))]; exact q4
  have pc : ∀ u, P u → u.cell? ⟨kd, 0, none⟩ = some (.pointer (some ⟨db, 0, none⟩)) ∧ u.cell? ⟨kn, 0, none⟩ = some (Sv x) ∧ u.cell? ⟨db, 0, none⟩ = some (.map (some bs)) := fun u hu => by rw [hP] at hu; exact ⟨hu.1, hu.2.1, hu.2.2.1⟩
  have klk : ∀ u, P u → (Instr.lookup 79 (.map (some bs)) (Sv x) false).run Tryz.prog u = .ok (.pointer (some ⟨blk fl i, 0, none⟩)) u := fun u hu => by
    rw [hP] at hu
    have hlook := hu.2.2.2.look hlx
    rwa [show nmap fl D.seen x = some (blk fl i) by simp [nmap, hx]] at hlook
  have hpd : P w.drew := pk p0 (Touch.of_up (Up.drew w) L)
  have HH : Hid (DiskV w base db D bs bf vch mp fl ∧ D.fs[i]? = some F ∧ fl[i]? = some (blk fl i, L) ∧ base ≤ w.heap.size) := ⟨h, hi, hp, hbase⟩
  have HA : Hid (∀ u, Up w u → Calls Tryz.prog 92 #[.pointer (some ⟨blk fl i, 0, none⟩)] u fun e w' => ∃ L', e = .returned (.tuple #[]) ∧ FileAt w' base (blk fl i) ((i : Int) + 1) (F.sync) L' ∧ (∀ k ∈ L', k ∈ L ∨ u.heap.size ≤ k) ∧ Touch u w' L) := hadd
  clear h hi hp hbase hF hl hfa hLin hx cd cn  hadd hP p0 hnL hkd hkn 
  go_enter Tryz.func91, Tryz.ntmps91
  have hs : P w.drew := hpd
  refine wp_region_held_drew (S := P) (by kernel_rfl) hs (fun hs0 => ?_)
  refine take_to (some 2) (i := 0) (v := .pointer (some ⟨db, 0, none⟩)) rfl rfl (by kernel_rfl) (by kernel_rfl) (by kernel_rfl) (fun _ _ _ h => h) (Or.inl ⟨by kernel_rfl, by intro u hSu; have q0 := (pc u hSu).1; go_simp⟩) hs ?_
  simp only [Act.put, List.setIfInBounds_toArray, List.set_cons_zero, List.set_cons_succ]
  refine take_to (some 3) (i := 1) (v := .pointer (some ⟨db, 0, none⟩)) rfl rfl (by kernel_rfl) (by kernel_rfl) (by kernel_rfl) (fun _ _ _ h => h) (Or.inl ⟨by kernel_rfl, by intro u hSu; go_simp⟩) hs ?_
  simp only [Act.put, List.setIfInBounds_toArray, List.set_cons_zero, List.set_cons_succ]
  refine take_to (some 4) (i := 2) (v := .pointer (some ⟨db, 0, none⟩)) rfl rfl (by kernel_rfl) (by kernel_rfl) (by kernel_rfl) (fun _ _ _ h => h) (Or.inl ⟨by kernel_rfl, by intro u hSu; go_simp⟩) hs ?_
  simp only [Act.put, List.setIfInBounds_toArray, List.set_cons_zero, List.set_cons_succ]
  refine take_to (some 5) (i := 3) (v := .map (some bs)) rfl rfl (by kernel_rfl) (by kernel_rfl) (by kernel_rfl) (fun _ _ _ h => h) (Or.inl ⟨by kernel_rfl, by intro u hSu; have q0 := (pc u hSu).2.2; go_simp⟩) hs ?_
  simp only [Act.put, List.setIfInBounds_toArray, List.set_cons_zero, List.set_cons_succ]
  refine take_to (some 6) (i := 4) (v := Sv x) rfl rfl (by kernel_rfl) (by kernel_rfl) (by kernel_rfl) (fun _ _ _ h => h) (Or.inl ⟨by kernel_rfl, by intro u hSu; have q0 := (pc u hSu).2.1; go_simp⟩) hs ?_
  simp only [Act.put, List.setIfInBounds_toArray, List.set_cons_zero, List.set_cons_succ]
  refine take_to (some 7) (i := 5) (v := .pointer (some ⟨blk fl i, 0, none⟩)) rfl rfl (by kernel_rfl) (by kernel_rfl) (by kernel_rfl) (fun _ _ _ h => h) (Or.inl ⟨by kernel_rfl, by intro u hSu; have q0 := klk u hSu; go_simp⟩) hs ?_
  simp only [Act.put, List.setIfInBounds_toArray, List.set_cons_zero, List.set_cons_succ]
  refine wpAnyH_ready (rs := [6]) (by kernel_rfl) (by simp) ?_
  refine AllReadyH.cons rfl (fun K hK => ?_) AllReadyH.nil
  go_simp
  refine (HA.out _ (Up.drew w)).mono ?_
  rintro e w1 ⟨L', rfl, hf1, hn1, t1⟩
  refine hK.out _ _ (pk hs t1) (fun _ => ?_)
  clear hK K
  refine wpAnyH_done (by kernel_rfl) ?_ _
  go_wp2
  go_end0
  obtain ⟨h, hi, hp, hbase⟩ := HH.out
  exact ⟨rfl, h.done hi hp hf1 hn1 ((Touch.of_up (Up.drew w) L).trans t1 (fun k hk => .inl hk)) hbase⟩

set_option maxRecDepth 20000 in
set_option maxHeartbeats 800000 in
theorem trunc2_any (kd kn kv : Nat) (base db : Nat) (D : Dsk) (bs bf : Nat) (vch : Value) (mp : Option Nat) (fl : Fls) (w : World) (x : Nm) (i : Nat) (F : Fil) (n : Nat) (h : DiskV w base db D bs bf vch mp fl)
    (cd : w.cell? ⟨kd, 0, none⟩ = some (.pointer (some ⟨db, 0, none⟩))) (cn : w.cell? ⟨kn, 0, none⟩ = some (Sv x)) (cv : w.cell? ⟨kv, 0, none⟩ = some (.int .i64 (n : Int)))
    (hx : D.seen x = some i) (hi : D.fs[i]? = some F) (hF : F.Ok) (hbase : base ≤ w.heap.size) (hl : F.seen.data.length ≤ CB) (hn2 : n ≤ CB) (hlx : x.length ≤ maxLen) (hkd : kd ∉ dl db bs bf vch mp fl) (hkn : kn ∉ dl db bs bf vch mp fl) (hkv : kv ∉ dl db bs bf vch mp fl) :
    Calls Tryz.prog 121 #[.pointer (some ⟨kd, 0, none⟩), .pointer (some ⟨kn, 0, none⟩), .pointer (some ⟨kv, 0, none⟩)] w fun e w' => e = .returned (.tuple #[]) ∧ FileDone w base db D i (·.cut n) (dl db bs bf vch mp fl) w' := by
  obtain ⟨L, hp, hfa⟩ := h.file hi
  have hLin : ∀ k ∈ L, k ∈ dl db bs bf vch mp fl := fun k hk => by
    have : k ∈ fl.flatMap (·.2) := List.mem_flatMap.2 ⟨_, List.mem_of_getElem? hp, hk⟩
    simp [this]
  have hadd : ∀ u, Up w u → Calls Tryz.prog 122 #[.pointer (some ⟨blk fl i, 0, none⟩), .int .i64 (n : Int)] u fun e w' => ∃ L', e = .returned (.tuple #[]) ∧ FileAt w' base (blk fl i) ((i : Int) + 1) (F.cut n) L' ∧ (∀ k ∈ L', k ∈ L ∨ u.heap.size ≤ k) ∧ Touch u w' L := fun u uu => by
    exact fcut_any base (blk fl i) ((i : Int) + 1) F L n u (hfa.kept (Touch.of_up uu []) (fun _ _ => by simp)) hF hn2 hl
  have hnL := h.apart hp
  obtain ⟨P, hP⟩ : ∃ P : World → Prop, P = fun u => u.cell? ⟨kd, 0, none⟩ = some (.pointer (some ⟨db, 0, none⟩)) ∧ u.cell? ⟨kn, 0, none⟩ = some (Sv x) ∧ u.cell? ⟨kv, 0, none⟩ = some (.int .i64 (n : Int)) ∧ u.cell? ⟨db, 0, none⟩ = some (.map (some bs)) ∧ MapIs u bs D.room (nmap fl D.seen) := ⟨_, rfl⟩
  have p0 : P w := by rw [hP]; exact ⟨cd, cn, cv, h.box.cell 0, h.see⟩
  have pk : ∀ {u u' : World}, P u → Touch u u' L → P u' := by
    intro u u' hu t
    rw [hP] at hu ⊢
    obtain ⟨q1, q2, q3, q4, q5⟩ := hu
    refine ⟨?_, ?_, ?_, ?_, q5.kept t (hnL bs (by simp))⟩
    · rw [World.cell?_of_block (t.block kd (World.block_lt_of_cell? u _ q1) (fun e => hkd (hLin _ e)))]; exact q1
    · rw [World.cell?_of_block (t.block kn (World.block_lt_of_cell? u _ q2) (fun e => hkn (hLin _ e)))]; exact q2
    · rw [World.cell?_of_block (t.block kv (World.block_lt_of_cell? u _ q3) (fun e => hkv (hLin _ e)))]; exact q3
    · rw [World.cell?_of_block (t.block db (World.block_lt_of_cell? u _ q4) (hnL db (by simp)))]; exact q4
  have pc : ∀ u, P u → u.cell? ⟨kd, 0, none⟩ = some (.pointer (some ⟨db, 0, none⟩)) ∧ u.cell? ⟨kn, 0, none⟩ = some (Sv x) ∧ u.cell? ⟨kv, 0, none⟩ = some (.int .i64 (n : Int)) ∧ u.cell? ⟨db, 0, none⟩ = some (.map (some bs)) := fun u hu => by rw [hP] at hu; exact ⟨hu.1, hu.2.1, hu.2.2.1, hu.2.2.2.1⟩
  have klk : ∀ u, P u → (Instr.lookup 79 (.map (some bs)) (Sv x) false).run Tryz.prog u = .ok (.pointer (some ⟨blk fl i, 0, none⟩)) u := fun u hu => by
    rw [hP] at hu
    have hlook := hu.2.2.2.2.look hlx
    rwa [show nmap fl D.seen x = some (blk fl i) by simp [nmap, hx]] at hlook
  have hpd : P w.drew := pk p0 (Touch.of_up (Up.drew w) L)
  have HH : Hid (DiskV w base db D bs bf vch mp fl ∧ D.fs[i]? = some F ∧ fl[i]? = some (blk fl i, L) ∧ base ≤ w.heap.size) := ⟨h, hi, hp, hbase⟩
  have HA : Hid (∀ u, Up w u → Calls Tryz.prog 122 #[.pointer (some ⟨blk fl i, 0, none⟩), .int .i64 (n : Int)] u fun e w' => ∃ L', e = .returned (.tuple #[]) ∧ FileAt w' base (blk fl i) ((i : Int) + 1) (F.cut n) L' ∧ (∀ k ∈ L', k ∈ L ∨ u.heap.size ≤ k) ∧ Touch u w' L) := hadd
  clear h hi hp hbase hF hl hfa hLin hx cd cn cv hadd hP p0 hnL hkd hkn hkv hn2
  go_enter Tryz.func121, Tryz.ntmps121
  have hs : P w.drew := hpd
  refine wp_region_held_drew (S := P) (by kernel_rfl) hs (fun hs0 => ?_)
  refine take_to (some 3) (i := 0) (v := .pointer (some ⟨db, 0, none⟩)) rfl rfl (by kernel_rfl) (by kernel_rfl) (by kernel_rfl) (fun _ _ _ h => h) (Or.inl ⟨by kernel_rfl, by intro u hSu; have q0 := (pc u hSu).1; go_simp⟩) hs ?_
  simp only [Act.put, List.setIfInBounds_toArray, List.set_cons_zero, List.set_cons_succ]
  refine take_to (some 4) (i := 1) (v := .pointer (some ⟨db, 0, none⟩)) rfl rfl (by kernel_rfl) (by kernel_rfl) (by kernel_rfl) (fun _ _ _ h => h) (Or.inl ⟨by kernel_rfl, by intro u hSu; go_simp⟩) hs ?_
  simp only [Act.put, List.setIfInBounds_toArray, List.set_cons_zero, List.set_cons_succ]
  refine take_to (some 5) (i := 2) (v := .pointer (some ⟨db, 0, none⟩)) rfl rfl (by kernel_rfl) (by kernel_rfl) (by kernel_rfl) (fun _ _ _ h => h) (Or.inl ⟨by kernel_rfl, by intro u hSu; go_simp⟩) hs ?_
  simp only [Act.put, List.setIfInBounds_toArray, List.set_cons_zero, List.set_cons_succ]
  refine take_to (some 6) (i := 3) (v := .map (some bs)) rfl rfl (by kernel_rfl) (by kernel_rfl) (by kernel_rfl) (fun _ _ _ h => h) (Or.inl ⟨by kernel_rfl, by intro u hSu; have q0 := (pc u hSu).2.2.2; go_simp⟩) hs ?_
  simp only [Act.put, List.setIfInBounds_toArray, List.set_cons_zero, List.set_cons_succ]
  refine take_to (some 7) (i := 4) (v := Sv x) rfl rfl (by kernel_rfl) (by kernel_rfl) (by kernel_rfl) (fun _ _ _ h => h) (Or.inl ⟨by kernel_rfl, by intro u hSu; have q0 := (pc u hSu).2.1; go_simp⟩) hs ?_
  simp only [Act.put, List.setIfInBounds_toArray, List.set_cons_zero, List.set_cons_succ]
  refine take_to (some 8) (i := 5) (v := .pointer (some ⟨blk fl i, 0, none⟩)) rfl rfl (by kernel_rfl) (by kernel_rfl) (by kernel_rfl) (fun _ _ _ h => h) (Or.inl ⟨by kernel_rfl, by intro u hSu; have q0 := klk u hSu; go_simp⟩) hs ?_
  simp only [Act.put, List.setIfInBounds_toArray, List.set_cons_zero, List.set_cons_succ]
  refine take_to (some 9) (i := 6) (v := .int .i64 (n : Int)) rfl rfl (by kernel_rfl) (by kernel_rfl) (by kernel_rfl) (fun _ _ _ h => h) (Or.inl ⟨by kernel_rfl, by intro u hSu; have q0 := (pc u hSu).2.2.1; go_simp⟩) hs ?_
  simp only [Act.put, List.setIfInBounds_toArray, List.set_cons_zero, List.set_cons_succ]
  refine wpAnyH_ready (rs := [7]) (by kernel_rfl) (by simp) ?_
  refine AllReadyH.cons rfl (fun K hK => ?_) AllReadyH.nil
  go_simp
  refine (HA.out _ (Up.drew w)).mono ?_
  rintro e w1 ⟨L', rfl, hf1, hn1, t1⟩
  refine hK.out _ _ (pk hs t1) (fun _ => ?_)
  clear hK K
  refine wpAnyH_done (by kernel_rfl) ?_ _
  go_wp2
  go_end0
  obtain ⟨h, hi, hp, hbase⟩ := HH.out
  exact ⟨rfl, h.done hi hp hf1 hn1 ((Touch.of_up (Up.drew w) L).trans t1 (fun k hk => .inl hk)) hbase⟩

end Go.Proofs.YtkfjkfpodkbkaaaGreatDoor

set_option linter.unusedVariables false
set_option linter.unusedSimpArgs false
namespace Go.Proofs.YtkfjkfpodkbkaaaGreatDoor
open Go Go.RowKit Go.Maps

set_option maxHeartbeats 400000 in
theorem apply_put (frm tt : Nm) (f b n : Nat) (m : Nm → Option Nat) (w : World) (hm : MapIs w b n m) (hn : n < 1000000000000000) (h1 : frm.length ≤ maxLen) (h2 : tt.length ≤ maxLen) (hne : tt ≠ []) :
    Calls Tryz.prog 97 #[.agg #[Sv frm, Sv tt, Pv1 (some f)], .map (some b)] w fun e w' => e = .returned (.tuple #[]) ∧ MapIs w' b (n + 1) (upd (upd m frm none) tt (some f)) ∧ Touch w w' [b] := by
  obtain ⟨W0, hW0⟩ : ∃ W0, w.alloc (.cells #[Sv frm, Sv tt, Pv1 (some f)] 138) = W0 := ⟨_, rfl⟩
  have u0 : Up w W0 := by rw [← hW0]; exact Up.alloc _ _
  have b0 : Box W0 w.heap.size #[Sv frm, Sv tt, Pv1 (some f)] := by rw [← hW0]; exact Box.new _ _ _
  have hm0 := hm.up u0
  have hbne : w.heap.size ≠ b := by have := hm.lt; omega
  have c0 : W0.cell? ⟨w.heap.size, 0, none⟩ = some (Sv frm) := b0.cell 0
  have HB : Hid (Box W0 w.heap.size #[Sv frm, Sv tt, Pv1 (some f)] ∧ w.heap.size ≠ b ∧ Up w W0) := ⟨b0, hbne, u0⟩
  have hq : tt.isEmpty = false := by cases tt with | nil => exact absurd rfl hne | cons _ _ => rfl
  clear b0 hbne u0 hm
  go_enter Tryz.func97, Tryz.ntmps97
  go_wp2_with (first
    | (at_delete; refine wpList_mapDel _ rfl _ _ rfl b n m rfl hm0 frm rfl h1 ?_; intro w1 hm1 t1; have b1 := t1.box HB.out.1 (by simpa using HB.out.2.1); have c1 : w1.cell? ⟨w.heap.size, 1, none⟩ = some (Sv tt) := b1.cell 1; have c2 : w1.cell? ⟨w.heap.size, 2, none⟩ = some (Pv1 (some f)) := b1.cell 2; have H1 : Hid (Touch W0 w1 [b]) := t1; clear b1 t1)
    | (at_mapUpdate; refine wpList_mapPut _ rfl _ _ _ rfl b n _ rfl hm1 (by unfold maxLen; omega) tt rfl h2 f rfl ?_; intro w2 hm2 t2))
  go_end0
  exact ⟨rfl, hm2, (Touch.of_up HB.out.2.2 [b]).trans (H1.out.trans t2 (fun k hk => .inl hk)) (fun k hk => .inl hk)⟩

end Go.Proofs.YtkfjkfpodkbkaaaGreatDoor
