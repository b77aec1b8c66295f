/- disk: Truncate, where it isn't refused. -/
import Derived.Test.YtkfjkfpodkbkaaaGreatDoorMg24
import Derived.BigQuiet
set_option linter.unusedVariables false
set_option linter.unusedSimpArgs false
namespace Go.Proofs.YtkfjkfpodkbkaaaGreatDoor
open Go Go.RowKit Go.Maps

set_option maxHeartbeats 800000 in
theorem trunc1_any (kd kn kv : Nat) (base db : Nat) (D : Dsk) (bs bf : Nat) (vch : Value) (mp : Option Nat) (fl : Fls) (w : World) (x : Nm) (i : Nat) (F : Fil) (n : Nat) (h : DiskV w base db D bs bf vch mp fl)
    (cd : w.cell? ⟨kd, 0, none⟩ = some (.pointer (some ⟨db, 0, none⟩))) (cn : w.cell? ⟨kn, 0, none⟩ = some (Sv x)) (cv : w.cell? ⟨kv, 0, none⟩ = some (.int .i64 (n : Int)))
    (hx : D.seen x = some i) (hi : D.fs[i]? = some F) (hl : F.seen.data.length ≤ CB) (hlx : x.length ≤ maxLen) (hn1 : n ≤ F.seen.data.length) (hn2 : n % 512 = 0) :
    Calls Tryz.prog 120 #[.pointer (some ⟨kd, 0, none⟩), .pointer (some ⟨kn, 0, none⟩), .pointer (some ⟨kv, 0, none⟩)] w fun e w' => e = .returned .nilIface ∧ Up w w' := by
  obtain ⟨Lf, hp, vs, vsb, vf, vfb, hfv, -⟩ := h.file hi
  have hmi := missing_not db bs D.room x (nmap fl D.seen) (blk fl i) w (h.box.cell 0) h.see (by simp [nmap, hx]) hlx
  have hlook : ∀ m, (Instr.lookup 79 (.map (some bs)) (Sv x) false).run Tryz.prog (w.drewN m) = .ok (.pointer (some ⟨blk fl i, 0, none⟩)) (w.drewN m) := fun m => by
    have hk := (h.see.up (up_drewN w m)).look hlx
    rwa [show nmap fl D.seen x = some (blk fl i) by simp [nmap, hx]] at hk
  have c0 : w.cell? ⟨db, 0, none⟩ = some (.map (some bs)) := h.box.cell 0
  have c1 : w.cell? ⟨blk fl i, 1, none⟩ = some vs := hfv.box.cell 1
  obtain ⟨p1, q1, rfl⟩ := hfv.sd.slice
  obtain ⟨Z, hZ⟩ : ∃ Z, F.seen.data.length = Z := ⟨_, rfl⟩
  rw [hZ] at c1
  obtain ⟨fb, hfb⟩ : ∃ fb, blk fl i = fb := ⟨_, rfl⟩
  rw [hfb] at c1 hlook
  have g1 : decide ((n : Int) < 0) = false := decide_eq_false (by omega)
  have g2 : ¬ Z < n := by omega
  have g6 : n ≤ Z := by omega
  have g3 : Int.tmod (n : Int) 512 = 0 := by rw [Int.tmod_eq_emod_of_nonneg (by omega)]; omega
  have g4 : (n : Int) % 512 = 0 := by omega
  have g5 : (0 : Int) ≤ (n : Int) := by omega
  clear h hfv hx hi hl hp hlx hn1 hn2 hZ hfb
  go_enter Tryz.func120, Tryz.ntmps120
  go_wp2_with fail
  refine hmi.mono ?_
  rintro e w1 ⟨rfl, hw⟩
  obtain rfl : w = w1 := hw.symm
  clear hmi
  go_wp2_with fail
  go_quiet (fail)
  go_wp2
  go_ret
  exact ⟨rfl, up_drewN _ _⟩

set_option maxRecDepth 20000 in
set_option maxHeartbeats 800000 in
theorem DiskTrunc_any (W00 : World) (db : Nat) (D : Dsk) (L : List Nat) (w : World) (ad : Nat → Addr) (x : Nm) (i : Nat) (F : Fil) (n : Nat) (h : DiskAt w W00.heap.size db D L) (hU : Up W00 w) (hE : ErrSet segErrs errTxt W00 ad) (hd : D.down = false) (hok : D.Ok) (hr : D.room ≤ 1000000000) (hx : D.seen x = some i) (hi : D.fs[i]? = some F) (hF : F.Ok) (hl : F.seen.data.length ≤ CB) (hlx : x.length ≤ maxLen) (hn1 : n ≤ F.seen.data.length) (hn2 : n % 512 = 0) :
    Calls Tryz.prog 72 #[.pointer (some ⟨db, 0, none⟩), Sv x, .int .i64 (n : Int)] w fun e w' => e = .returned (D.fate.err ad) ∧ OpDone w W00.heap.size db (D.trunc i n) L w' := by
  obtain ⟨bs, bf, vch, mp, fl, hV, rfl⟩ := h
  obtain ⟨W1, hW1⟩ : ∃ W1, ((w.alloc (.cells #[.pointer (some ⟨db, 0, none⟩)] 36)).alloc (.cells #[Sv x] 9)).alloc (.cells #[.int .i64 (n : Int)] 3) = W1 := ⟨_, rfl⟩
  have u1 : Up w W1 := by rw [← hW1]; exact ((Up.alloc _ _).trans (Up.alloc _ _)).trans (Up.alloc _ _)
  obtain ⟨B, hB⟩ : ∃ B, w.heap.size = B := ⟨_, rfl⟩
  have b0 : Box W1 (B) #[.pointer (some ⟨db, 0, none⟩)] := by rw [← hW1]; exact ((Box.newAt (by simp [hB])).alloc _).alloc _
  have b1 : Box W1 (B + 1) #[Sv x] := by rw [← hW1]; exact (Box.newAt (by simp [hB])).alloc _
  have b2 : Box W1 (B + 1 + 1) #[.int .i64 (n : Int)] := by rw [← hW1]; exact Box.newAt (by simp [hB])
  have h1 := hV.up u1
  have hU1 := hU.trans u1
  have hdl := hV.lt
  have hbase : W00.heap.size ≤ W1.heap.size := hU1.size
  have hkn : ∀ k ∈ dl db bs bf vch mp fl, k < B := fun k hk => by have := hdl k hk; omega
  have n0 : B ∉ dl db bs bf vch mp fl := fun hm => by have := hkn _ hm; omega
  have n1 : B + 1 ∉ dl db bs bf vch mp fl := fun hm => by have := hkn _ hm; omega
  have n2 : B + 1 + 1 ∉ dl db bs bf vch mp fl := fun hm => by have := hkn _ hm; omega
  have d0 : B ∉ [db] := fun hm => n0 (by simp at hm; simp [hm])
  have d1 : B + 1 ∉ [db] := fun hm => n1 (by simp at hm; simp [hm])
  have d2 : B + 1 + 1 ∉ [db] := fun hm => n2 (by simp at hm; simp [hm])
  have hdb : db ∈ dl db bs bf vch mp fl := by simp
  have hop : Calls Tryz.prog 65 #[.pointer (some ⟨db, 0, none⟩), .agg #[clo 120 #[.pointer (some ⟨B, 0, none⟩), .pointer (some ⟨B + 1, 0, none⟩), .pointer (some ⟨B + 1 + 1, 0, none⟩)], clo 121 #[.pointer (some ⟨B, 0, none⟩), .pointer (some ⟨B + 1, 0, none⟩), .pointer (some ⟨B + 1 + 1, 0, none⟩)], .nilFunc, .bool false]] W1 fun e w' => e = .returned (D.fate.err ad) ∧ OpDone W1 W00.heap.size db (D.trunc i n) (dl db bs bf vch mp fl) w' := by
    have hnn : D.ops ≤ 1000000000000 := by have := hok.num; omega
    have hna := hok.num.2.2.1
    have er : Enters Tryz.prog 120 := enters_of Tryz.func120 (by kernel_rfl) rfl
    have ed : Enters Tryz.prog 121 := enters_of Tryz.func121 (by kernel_rfl) rfl
    have hR : ∀ u, Cnt W1 W00.heap.size db D bs bf vch mp fl u → Calls Tryz.prog 120 #[.pointer (some ⟨B, 0, none⟩), .pointer (some ⟨B + 1, 0, none⟩), .pointer (some ⟨B + 1 + 1, 0, none⟩)] u fun e u' => e = .returned .nilIface ∧ Up u u' := fun u hu =>
      trunc1_any B (B + 1) (B + 1 + 1) _ db D.counted bs bf vch mp fl u x i F n hu.1 ((hu.2.box b0 d0).cell 0) ((hu.2.box b1 d1).cell 0) ((hu.2.box b2 d2).cell 0) hx hi hl hlx hn1 hn2
    cases hf : D.fate with
    | goes =>
      have e : D.trunc i n = D.counted.at i (·.cut n) := by simp [Dsk.trunc, hf]
      rw [e]
      exact operate_goes W00 db D bs bf vch mp fl W1 ad h1 hU1 hE hd hnn hna hf _ _ _ _ _ _ _ er ed hR (fun u hu =>
        (trunc2_any B (B + 1) (B + 1 + 1) _ db D.counted bs bf vch mp fl u x i F n hu.1 ((hu.2.box b0 d0).cell 0) ((hu.2.box b1 d1).cell 0) ((hu.2.box b2 d2).cell 0) hx hi hF (Nat.le_trans hbase hu.2.size) hl (Nat.le_trans hn1 hl) hlx n0 n1 n2).mono (fun e u' q => ⟨q.1, .of_file q.2 hu.2 hdb⟩))
    | cut =>
      have e : D.trunc i n = D.counted := by simp [Dsk.trunc, hf]
      rw [e]
      exact operate_cut_not W00 db D bs bf vch mp fl W1 ad h1 hU1 hE hd hnn hna hf _ _ _ _ _ _ er hR (fun u hu => .of_cnt hu)
    | fails q =>
      have e : D.trunc i n = D.counted := by simp [Dsk.trunc, hf]
      rw [e]
      exact operate_fails W00 db D bs bf vch mp fl W1 ad h1 hU1 hE hd hnn hna q hf _ _ _ _ _ _ er hR (fun u hu => .of_cnt hu)
  have hop2 : Calls Tryz.prog 65 #[.pointer (some ⟨db, 0, none⟩), .agg #[clo 120 #[.pointer (some ⟨B, 0, none⟩), .pointer (some ⟨B + 1, 0, none⟩), .pointer (some ⟨B + 1 + 1, 0, none⟩)], clo 121 #[.pointer (some ⟨B, 0, none⟩), .pointer (some ⟨B + 1, 0, none⟩), .pointer (some ⟨B + 1 + 1, 0, none⟩)], .nilFunc, .bool false]] W1 fun e w' => e = .returned (D.fate.err ad) ∧ OpDone w W00.heap.size db (D.trunc i n) (dl db bs bf vch mp fl) w' := hop.mono (fun e w' q => ⟨q.1, q.2.up u1⟩)
  have c0 : W1.cell? ⟨B, 0, none⟩ = some (.pointer (some ⟨db, 0, none⟩)) := b0.cell 0
  have c1 : W1.cell? ⟨B + 1, 0, none⟩ = some (Sv x) := b1.cell 0
  have c2 : W1.cell? ⟨B + 1 + 1, 0, none⟩ = some (.int .i64 (n : Int)) := b2.cell 0
  have HO : Hid (∀ e w', (e = Ending.returned (D.fate.err ad) ∧ OpDone w W00.heap.size db (D.trunc i n) (dl db bs bf vch mp fl) w') → (e = Ending.returned (D.fate.err ad) ∧ OpDone w W00.heap.size db (D.trunc i n) (dl db bs bf vch mp fl) w')) := fun _ _ q => q
  have hmf : ∀ (fn : Fn) (first cap : Array Value) (w : World), (Instr.makeFunc fn first cap).run Tryz.prog w = .ok (.func fn first cap) w := fun _ _ _ _ => rfl
  obtain ⟨ER, hER⟩ : ∃ ER, D.fate.err ad = ER := ⟨_, rfl⟩
  rw [hER] at hop2 ⊢
  clear hop HO hER h1 hU1 hdl hbase hkn n0 d0 n1 d1 n2 d2 hV hU hE hok hr u1 b0 b1 b2 hdb hn1 hn2
  go_enter Tryz.func72, Tryz.ntmps72
  go_wp2_with fail
  refine hop2.mono ?_
  rintro e w2 ⟨rfl, r2⟩
  clear hop2
  go_wp2
  go_ret
  exact ⟨rfl, r2⟩
end Go.Proofs.YtkfjkfpodkbkaaaGreatDoor
