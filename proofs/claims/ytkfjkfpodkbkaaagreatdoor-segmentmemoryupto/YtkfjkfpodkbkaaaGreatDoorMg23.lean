/- Merged: DkOp9. -/
import Derived.Test.YtkfjkfpodkbkaaaGreatDoorMg22
set_option linter.unusedVariables false
set_option linter.unusedSimpArgs false
namespace Go.Proofs.YtkfjkfpodkbkaaaGreatDoor
open Go Go.RowKit Go.Maps

/-- Behind an operation: the disk is D', on blocks of L or new ones. -/
def OpDone (w : World) (base db : Nat) (D' : Dsk) (L : List Nat) (w' : World) : Prop := ∃ L', DiskAt w' base db D' L' ∧ (∀ k ∈ L', k ∈ L ∨ w.heap.size ≤ k) ∧ Touch w w' L
theorem OpDone.of_file {w u w' : World} {base db : Nat} {D : Dsk} {i : Nat} {f : Fil → Fil} {L : List Nat} (h : FileDone u base db D i f L w') (t : Touch w u [db]) (hdb : db ∈ L) : OpDone w base db (D.at i f) L w' := by
  obtain ⟨L', h1, h2, h3⟩ := h
  exact ⟨L', h1, fun k hk => (h2 k hk).imp id (fun q => Nat.le_trans t.size q), (t.mono (fun k hk => .inl (by simp at hk; subst hk; exact hdb))).trans h3 (fun k hk => .inl hk)⟩
theorem OpDone.of_disk {w u w' : World} {base db : Nat} {D' : Dsk} {L : List Nat} (h : OpDone u base db D' L w') (t : Touch w u [db]) (hdb : db ∈ L) : OpDone w base db D' L w' := by
  obtain ⟨L', h1, h2, h3⟩ := h
  exact ⟨L', h1, fun k hk => (h2 k hk).imp id (fun q => Nat.le_trans t.size q), (t.mono (fun k hk => .inl (by simp at hk; subst hk; exact hdb))).trans h3 (fun k hk => .inl hk)⟩
theorem OpDone.of_cnt {w u : World} {base db : Nat} {D : Dsk} {bs bf : Nat} {vch : Value} {mp : Option Nat} {fl : Fls} (h : Cnt w base db D bs bf vch mp fl u) : OpDone w base db D.counted (dl db bs bf vch mp fl) u :=
  ⟨_, ⟨_, _, _, _, _, h.1, rfl⟩, fun k hk => .inl hk, h.2.mono (fun k hk => .inl (by simp at hk; simp [hk]))⟩
theorem OpDone.up {w0 w w' : World} {base db : Nat} {D' : Dsk} {L : List Nat} (h : OpDone w base db D' L w') (u : Up w0 w) : OpDone w0 base db D' L w' := by
  obtain ⟨L', h1, h2, h3⟩ := h
  exact ⟨L', h1, fun k hk => (h2 k hk).imp id (fun q => Nat.le_trans u.size q), (Touch.of_up u L).trans h3 (fun k hk => .inl hk)⟩

theorem parts_bound (D : Dsk) (hp : ∀ k q, D.parts k = some q → -9223372036854775808 ≤ q ∧ q ≤ 9223372036854775807) (q : Int) (hf : D.fate = .fails q) : -9223372036854775808 ≤ q ∧ q ≤ 9223372036854775807 := by
  unfold Dsk.fate at hf
  split at hf
  · cases hf
  · split at hf
    · rename_i h; cases hf; exact hp _ _ h
    · cases hf

set_option maxRecDepth 20000 in
set_option maxHeartbeats 800000 in
theorem Append_any (W00 : World) (db : Nat) (D : Dsk) (L : List Nat) (w : World) (ad : Nat → Addr) (x : Nm) (i : Nat) (F : Fil) (ao : Option Addr) (cap : Nat) (d : List UInt8) (h : DiskAt w W00.heap.size db D L) (hU : Up W00 w) (hE : ErrSet segErrs errTxt W00 ad) (hd : D.down = false) (hok : D.Ok) (hr : D.room ≤ 1000000000) (hx : D.seen x = some i) (hi : D.fs[i]? = some F) (hF : F.Ok) (hs : Sl 0 w (.slice ao d.length cap) d) (hsn : d ≠ [] → ∀ k, (Value.slice ao d.length cap).ownBlock = some k → k ∉ L) (hl : F.seen.data.length + d.length ≤ CB) (hlx : x.length ≤ maxLen) (hprt : ∀ k q, D.parts k = some q → -9223372036854775808 ≤ q ∧ q ≤ 9223372036854775807) :
    Calls Tryz.prog 29 #[.pointer (some ⟨db, 0, none⟩), Sv x, .slice ao d.length cap] w fun e w' => e = .returned (D.fate.err ad) ∧ OpDone w W00.heap.size db (D.append i d) L w' := by
  obtain ⟨bs, bf, vch, mp, fl, hV, rfl⟩ := h
  obtain ⟨W1, hW1⟩ : ∃ W1, ((w.alloc (.cells #[.pointer (some ⟨db, 0, none⟩)] 36)).alloc (.cells #[Sv x] 9)).alloc (.cells #[.slice ao d.length cap] 60) = W1 := ⟨_, rfl⟩
  have u1 : Up w W1 := by rw [← hW1]; exact ((Up.alloc _ _).trans (Up.alloc _ _)).trans (Up.alloc _ _)
  obtain ⟨B, hB⟩ : ∃ B, w.heap.size = B := ⟨_, rfl⟩
  have b0 : Box W1 (B) #[.pointer (some ⟨db, 0, none⟩)] := by rw [← hW1]; exact ((Box.newAt (by simp [hB])).alloc _).alloc _
  have b1 : Box W1 (B + 1) #[Sv x] := by rw [← hW1]; exact (Box.newAt (by simp [hB])).alloc _
  have b2 : Box W1 (B + 1 + 1) #[.slice ao d.length cap] := by rw [← hW1]; exact Box.newAt (by simp [hB])
  have h1 := hV.up u1
  have hU1 := hU.trans u1
  have hdl := hV.lt
  have hbase : W00.heap.size ≤ W1.heap.size := hU1.size
  have hkn : ∀ k ∈ dl db bs bf vch mp fl, k < B := fun k hk => by have := hdl k hk; omega
  have n0 : B ∉ dl db bs bf vch mp fl := fun hm => by have := hkn _ hm; omega
  have n1 : B + 1 ∉ dl db bs bf vch mp fl := fun hm => by have := hkn _ hm; omega
  have n2 : B + 1 + 1 ∉ dl db bs bf vch mp fl := fun hm => by have := hkn _ hm; omega
  have d0 : B ∉ [db] := fun hm => n0 (by simp at hm; simp [hm])
  have d1 : B + 1 ∉ [db] := fun hm => n1 (by simp at hm; simp [hm])
  have d2 : B + 1 + 1 ∉ [db] := fun hm => n2 (by simp at hm; simp [hm])
  have hdb : db ∈ dl db bs bf vch mp fl := by simp
  have hop : Calls Tryz.prog 65 #[.pointer (some ⟨db, 0, none⟩), .agg #[clo 66 #[.pointer (some ⟨B, 0, none⟩), .pointer (some ⟨B + 1, 0, none⟩)], clo 67 #[.pointer (some ⟨B, 0, none⟩), .pointer (some ⟨B + 1, 0, none⟩), .pointer (some ⟨B + 1 + 1, 0, none⟩)], clo 69 #[.pointer (some ⟨B, 0, none⟩), .pointer (some ⟨B + 1, 0, none⟩), .pointer (some ⟨B + 1 + 1, 0, none⟩)], .bool true]] W1 fun e w' => e = .returned (D.fate.err ad) ∧ OpDone W1 W00.heap.size db (D.append i d) (dl db bs bf vch mp fl) w' := by
    have hnn : D.ops ≤ 1000000000000 := by have := hok.num; omega
    have hna := hok.num.2.2.1
    have er : Enters Tryz.prog 66 := enters_of Tryz.func66 (by kernel_rfl) rfl
    have ed : Enters Tryz.prog 67 := enters_of Tryz.func67 (by kernel_rfl) rfl
    have ep : Enters Tryz.prog 69 := enters_of Tryz.func69 (by kernel_rfl) rfl
    have hsu : ∀ u, Cnt W1 W00.heap.size db D bs bf vch mp fl u → Sl 0 u (.slice ao d.length cap) d := fun u hu => Touch.sl (hs.up u1) hu.2 (fun hne k hk hm => hsn hne k hk (by simp at hm; simp [hm]))
    have hR : ∀ u, Cnt W1 W00.heap.size db D bs bf vch mp fl u → Calls Tryz.prog 66 #[.pointer (some ⟨B, 0, none⟩), .pointer (some ⟨B + 1, 0, none⟩)] u fun e u' => e = .returned .nilIface ∧ Up u u' := fun u hu =>
      append1_any B (B + 1) db bs _ x _ (blk fl i) u ((hu.2.box b0 d0).cell 0) ((hu.2.box b1 d1).cell 0) (hu.1.box.cell 0) hu.1.see (by show nmap fl D.seen x = _; simp [nmap, hx]) hlx
    have hD : ∀ u, Cnt W1 W00.heap.size db D bs bf vch mp fl u → Calls Tryz.prog 67 #[.pointer (some ⟨B, 0, none⟩), .pointer (some ⟨B + 1, 0, none⟩), .pointer (some ⟨B + 1 + 1, 0, none⟩)] u fun e u' => e = .returned (.tuple #[]) ∧ OpDone W1 W00.heap.size db (D.counted.at i (·.add d)) (dl db bs bf vch mp fl) u' := fun u hu =>
      (append2_any B (B + 1) (B + 1 + 1) _ db D.counted bs bf vch mp fl u x i F (.slice ao d.length cap) d hu.1 ((hu.2.box b0 d0).cell 0) ((hu.2.box b1 d1).cell 0) ((hu.2.box b2 d2).cell 0) hx hi hF (Nat.le_trans hbase hu.2.size) (hsu u hu) hsn hl hlx).mono (fun e u' q => ⟨q.1, .of_file q.2 hu.2 hdb⟩)
    cases hf : D.fate with
    | goes =>
      have e : D.append i d = D.counted.at i (·.add d) := by simp [Dsk.append, hf]
      rw [e]
      exact operate_goes W00 db D bs bf vch mp fl W1 ad h1 hU1 hE hd hnn hna hf _ _ _ _ _ _ _ er ed hR hD
    | cut =>
      have e : D.append i d = D.counted.at i (·.add d) := by simp [Dsk.append, hf]
      rw [e]
      exact operate_cut_done W00 db D bs bf vch mp fl W1 ad h1 hU1 hE hd hnn hna hf _ _ _ _ _ _ er ed hR hD
    | fails q =>
      have e : D.append i d = D.counted.at i (·.add (partOf q d)) := by simp [Dsk.append, hf]
      rw [e]
      have hq := parts_bound D hprt q hf
      exact operate_part W00 db D bs bf vch mp fl W1 ad h1 hU1 hE hd hnn hna q hf _ _ _ _ _ _ _ _ er ep hR (fun u hu =>
        (append3_any B (B + 1) (B + 1 + 1) _ db D.counted bs bf vch mp fl u x i F (.slice ao d.length cap) d q hu.1 ((hu.2.box b0 d0).cell 0) ((hu.2.box b1 d1).cell 0) ((hu.2.box b2 d2).cell 0) hx hi hF (Nat.le_trans hbase hu.2.size) (hsu u hu) hsn hl hlx n0 n1 n2 hq).mono (fun e u' q => ⟨q.1, .of_file q.2 hu.2 hdb⟩))
  have hop2 : Calls Tryz.prog 65 #[.pointer (some ⟨db, 0, none⟩), .agg #[clo 66 #[.pointer (some ⟨B, 0, none⟩), .pointer (some ⟨B + 1, 0, none⟩)], clo 67 #[.pointer (some ⟨B, 0, none⟩), .pointer (some ⟨B + 1, 0, none⟩), .pointer (some ⟨B + 1 + 1, 0, none⟩)], clo 69 #[.pointer (some ⟨B, 0, none⟩), .pointer (some ⟨B + 1, 0, none⟩), .pointer (some ⟨B + 1 + 1, 0, none⟩)], .bool true]] W1 fun e w' => e = .returned (D.fate.err ad) ∧ OpDone w W00.heap.size db (D.append i d) (dl db bs bf vch mp fl) w' := hop.mono (fun e w' q => ⟨q.1, q.2.up u1⟩)
  have c0 : W1.cell? ⟨B, 0, none⟩ = some (.pointer (some ⟨db, 0, none⟩)) := b0.cell 0
  have c1 : W1.cell? ⟨B + 1, 0, none⟩ = some (Sv x) := b1.cell 0
  have c2 : W1.cell? ⟨B + 1 + 1, 0, none⟩ = some (.slice ao d.length cap) := b2.cell 0
  have HO : Hid (∀ e w', (e = Ending.returned (D.fate.err ad) ∧ OpDone w W00.heap.size db (D.append i d) (dl db bs bf vch mp fl) w') → (e = Ending.returned (D.fate.err ad) ∧ OpDone w W00.heap.size db (D.append i d) (dl db bs bf vch mp fl) w')) := fun _ _ q => q
  have hmf : ∀ (fn : Fn) (first cap : Array Value) (w : World), (Instr.makeFunc fn first cap).run Tryz.prog w = .ok (.func fn first cap) w := fun _ _ _ _ => rfl
  obtain ⟨ER, hER⟩ : ∃ ER, D.fate.err ad = ER := ⟨_, rfl⟩
  rw [hER] at hop2 ⊢
  clear hop HO hER h1 hU1 hdl hbase hkn n0 d0 n1 d1 n2 d2 hV hU hE hok hr u1 b0 b1 b2 hdb
  go_enter Tryz.func29, Tryz.ntmps29
  go_wp2_with fail
  refine hop2.mono ?_
  rintro e w2 ⟨rfl, r2⟩
  clear hop2
  go_wp2
  go_ret
  exact ⟨rfl, r2⟩

set_option maxRecDepth 20000 in
set_option maxHeartbeats 800000 in
theorem DiskSync_any (W00 : World) (db : Nat) (D : Dsk) (L : List Nat) (w : World) (ad : Nat → Addr) (x : Nm) (i : Nat) (F : Fil) (h : DiskAt w W00.heap.size db D L) (hU : Up W00 w) (hE : ErrSet segErrs errTxt W00 ad) (hd : D.down = false) (hok : D.Ok) (hr : D.room ≤ 1000000000) (hx : D.seen x = some i) (hi : D.fs[i]? = some F) (hF : F.Ok) (hl : F.seen.data.length ≤ CB) (hlx : x.length ≤ maxLen) :
    Calls Tryz.prog 47 #[.pointer (some ⟨db, 0, none⟩), Sv x] w fun e w' => e = .returned (D.fate.err ad) ∧ OpDone w W00.heap.size db (D.sync i) L w' := by
  obtain ⟨bs, bf, vch, mp, fl, hV, rfl⟩ := h
  obtain ⟨W1, hW1⟩ : ∃ W1, (w.alloc (.cells #[.pointer (some ⟨db, 0, none⟩)] 36)).alloc (.cells #[Sv x] 9) = W1 := ⟨_, rfl⟩
  have u1 : Up w W1 := by rw [← hW1]; exact (Up.alloc _ _).trans (Up.alloc _ _)
  obtain ⟨B, hB⟩ : ∃ B, w.heap.size = B := ⟨_, rfl⟩
  have b0 : Box W1 (B) #[.pointer (some ⟨db, 0, none⟩)] := by rw [← hW1]; exact (Box.newAt (by simp [hB])).alloc _
  have b1 : Box W1 (B + 1) #[Sv x] := by rw [← hW1]; exact Box.newAt (by simp [hB])
  have h1 := hV.up u1
  have hU1 := hU.trans u1
  have hdl := hV.lt
  have hbase : W00.heap.size ≤ W1.heap.size := hU1.size
  have hkn : ∀ k ∈ dl db bs bf vch mp fl, k < B := fun k hk => by have := hdl k hk; omega
  have n0 : B ∉ dl db bs bf vch mp fl := fun hm => by have := hkn _ hm; omega
  have n1 : B + 1 ∉ dl db bs bf vch mp fl := fun hm => by have := hkn _ hm; omega
  have d0 : B ∉ [db] := fun hm => n0 (by simp at hm; simp [hm])
  have d1 : B + 1 ∉ [db] := fun hm => n1 (by simp at hm; simp [hm])
  have hdb : db ∈ dl db bs bf vch mp fl := by simp
  have hop : Calls Tryz.prog 65 #[.pointer (some ⟨db, 0, none⟩), .agg #[clo 90 #[.pointer (some ⟨B, 0, none⟩), .pointer (some ⟨B + 1, 0, none⟩)], clo 91 #[.pointer (some ⟨B, 0, none⟩), .pointer (some ⟨B + 1, 0, none⟩)], .nilFunc, .bool false]] W1 fun e w' => e = .returned (D.fate.err ad) ∧ OpDone W1 W00.heap.size db (D.sync i) (dl db bs bf vch mp fl) w' := by
    have hnn : D.ops ≤ 1000000000000 := by have := hok.num; omega
    have hna := hok.num.2.2.1
    have er : Enters Tryz.prog 90 := enters_of Tryz.func90 (by kernel_rfl) rfl
    have ed : Enters Tryz.prog 91 := enters_of Tryz.func91 (by kernel_rfl) rfl
    have hR : ∀ u, Cnt W1 W00.heap.size db D bs bf vch mp fl u → Calls Tryz.prog 90 #[.pointer (some ⟨B, 0, none⟩), .pointer (some ⟨B + 1, 0, none⟩)] u fun e u' => e = .returned .nilIface ∧ Up u u' := fun u hu =>
      sync1_any B (B + 1) db bs _ x _ (blk fl i) u ((hu.2.box b0 d0).cell 0) ((hu.2.box b1 d1).cell 0) (hu.1.box.cell 0) hu.1.see (by show nmap fl D.seen x = _; simp [nmap, hx]) hlx
    cases hf : D.fate with
    | goes =>
      have e : D.sync i = D.counted.at i (·.sync) := by simp [Dsk.sync, hf]
      rw [e]
      exact operate_goes W00 db D bs bf vch mp fl W1 ad h1 hU1 hE hd hnn hna hf _ _ _ _ _ _ _ er ed hR (fun u hu =>
        (sync2_any B (B + 1) _ db D.counted bs bf vch mp fl u x i F hu.1 ((hu.2.box b0 d0).cell 0) ((hu.2.box b1 d1).cell 0) hx hi hF (Nat.le_trans hbase hu.2.size) hl hlx n0 n1).mono (fun e u' q => ⟨q.1, .of_file q.2 hu.2 hdb⟩))
    | cut =>
      have e : D.sync i = D.counted := by simp [Dsk.sync, hf]
      rw [e]
      exact operate_cut_not W00 db D bs bf vch mp fl W1 ad h1 hU1 hE hd hnn hna hf _ _ _ _ _ _ er hR (fun u hu => .of_cnt hu)
    | fails q =>
      have e : D.sync i = D.counted := by simp [Dsk.sync, hf]
      rw [e]
      exact operate_fails W00 db D bs bf vch mp fl W1 ad h1 hU1 hE hd hnn hna q hf _ _ _ _ _ _ er hR (fun u hu => .of_cnt hu)
  have hop2 : Calls Tryz.prog 65 #[.pointer (some ⟨db, 0, none⟩), .agg #[clo 90 #[.pointer (some ⟨B, 0, none⟩), .pointer (some ⟨B + 1, 0, none⟩)], clo 91 #[.pointer (some ⟨B, 0, none⟩), .pointer (some ⟨B + 1, 0, none⟩)], .nilFunc, .bool false]] W1 fun e w' => e = .returned (D.fate.err ad) ∧ OpDone w W00.heap.size db (D.sync i) (dl db bs bf vch mp fl) w' := hop.mono (fun e w' q => ⟨q.1, q.2.up u1⟩)
  have c0 : W1.cell? ⟨B, 0, none⟩ = some (.pointer (some ⟨db, 0, none⟩)) := b0.cell 0
  have c1 : W1.cell? ⟨B + 1, 0, none⟩ = some (Sv x) := b1.cell 0
  have HO : Hid (∀ e w', (e = Ending.returned (D.fate.err ad) ∧ OpDone w W00.heap.size db (D.sync i) (dl db bs bf vch mp fl) w') → (e = Ending.returned (D.fate.err ad) ∧ OpDone w W00.heap.size db (D.sync i) (dl db bs bf vch mp fl) w')) := fun _ _ q => q
  have hmf : ∀ (fn : Fn) (first cap : Array Value) (w : World), (Instr.makeFunc fn first cap).run Tryz.prog w = .ok (.func fn first cap) w := fun _ _ _ _ => rfl
  obtain ⟨ER, hER⟩ : ∃ ER, D.fate.err ad = ER := ⟨_, rfl⟩
  rw [hER] at hop2 ⊢
  clear hop HO hER h1 hU1 hdl hbase hkn n0 d0 n1 d1 hV hU hE hok hr u1 b0 b1 hdb
  go_enter Tryz.func47, Tryz.ntmps47
  go_wp2_with fail
  refine hop2.mono ?_
  rintro e w2 ⟨rfl, r2⟩
  clear hop2
  go_wp2
  go_ret
  exact ⟨rfl, r2⟩

set_option maxRecDepth 20000 in
set_option maxHeartbeats 800000 in
theorem DiskCreate_any (W00 : World) (db : Nat) (D : Dsk) (L : List Nat) (w : World) (ad : Nat → Addr) (x : Nm) (h : DiskAt w W00.heap.size db D L) (hU : Up W00 w) (hE : ErrSet segErrs errTxt W00 ad) (hd : D.down = false) (hok : D.Ok) (hr : D.room ≤ 1000000000) (hx : D.seen x = none) (hne : x ≠ []) (hlx : x.length ≤ 64) :
    Calls Tryz.prog 41 #[.pointer (some ⟨db, 0, none⟩), Sv x] w fun e w' => e = .returned (D.fate.err ad) ∧ OpDone w W00.heap.size db (D.create x) L w' := by
  obtain ⟨bs, bf, vch, mp, fl, hV, rfl⟩ := h
  obtain ⟨W1, hW1⟩ : ∃ W1, (w.alloc (.cells #[.pointer (some ⟨db, 0, none⟩)] 36)).alloc (.cells #[Sv x] 9) = W1 := ⟨_, rfl⟩
  have u1 : Up w W1 := by rw [← hW1]; exact (Up.alloc _ _).trans (Up.alloc _ _)
  obtain ⟨B, hB⟩ : ∃ B, w.heap.size = B := ⟨_, rfl⟩
  have b0 : Box W1 (B) #[.pointer (some ⟨db, 0, none⟩)] := by rw [← hW1]; exact (Box.newAt (by simp [hB])).alloc _
  have b1 : Box W1 (B + 1) #[Sv x] := by rw [← hW1]; exact Box.newAt (by simp [hB])
  have h1 := hV.up u1
  have hU1 := hU.trans u1
  have hdl := hV.lt
  have hbase : W00.heap.size ≤ W1.heap.size := hU1.size
  have hkn : ∀ k ∈ dl db bs bf vch mp fl, k < B := fun k hk => by have := hdl k hk; omega
  have n0 : B ∉ dl db bs bf vch mp fl := fun hm => by have := hkn _ hm; omega
  have n1 : B + 1 ∉ dl db bs bf vch mp fl := fun hm => by have := hkn _ hm; omega
  have d0 : B ∉ [db] := fun hm => n0 (by simp at hm; simp [hm])
  have d1 : B + 1 ∉ [db] := fun hm => n1 (by simp at hm; simp [hm])
  have hdb : db ∈ dl db bs bf vch mp fl := by simp
  have hop : Calls Tryz.prog 65 #[.pointer (some ⟨db, 0, none⟩), .agg #[clo 83 #[.pointer (some ⟨B + 1, 0, none⟩), .pointer (some ⟨B, 0, none⟩)], clo 85 #[.pointer (some ⟨B, 0, none⟩), .pointer (some ⟨B + 1, 0, none⟩)], .nilFunc, .bool true]] W1 fun e w' => e = .returned (D.fate.err ad) ∧ OpDone W1 W00.heap.size db (D.create x) (dl db bs bf vch mp fl) w' := by
    have hnn : D.ops ≤ 1000000000000 := by have := hok.num; omega
    have hna := hok.num.2.2.1
    have er : Enters Tryz.prog 83 := enters_of Tryz.func83 (by kernel_rfl) rfl
    have ed : Enters Tryz.prog 85 := enters_of Tryz.func85 (by kernel_rfl) rfl
    have hR : ∀ u, Cnt W1 W00.heap.size db D bs bf vch mp fl u → Calls Tryz.prog 83 #[.pointer (some ⟨B + 1, 0, none⟩), .pointer (some ⟨B, 0, none⟩)] u fun e u' => e = .returned .nilIface ∧ Up u u' := fun u hu =>
      create1_any B (B + 1) db bs _ x _ u ((hu.2.box b0 d0).cell 0) ((hu.2.box b1 d1).cell 0) (hu.1.box.cell 0) hu.1.see (by show nmap fl D.seen x = _; simp [nmap, hx]) hne hlx
    have hok2 : D.counted.Ok := ⟨hok.fil, hok.see, hok.saf, hok.chl, hok.chn, hok.chs, by have := hok.num; simp [Dsk.counted]; omega⟩
    have hD : ∀ u, Cnt W1 W00.heap.size db D bs bf vch mp fl u → Calls Tryz.prog 85 #[.pointer (some ⟨B, 0, none⟩), .pointer (some ⟨B + 1, 0, none⟩)] u fun e u' => e = .returned (.tuple #[]) ∧ OpDone W1 W00.heap.size db (D.counted.made x) (dl db bs bf vch mp fl) u' := fun u hu =>
      (create2_any B (B + 1) _ db D.counted bs bf vch mp fl u x hu.1 hok2 ((hu.2.box b0 d0).cell 0) ((hu.2.box b1 d1).cell 0) hne hlx (by simp [Dsk.counted]; omega) (Nat.le_trans hbase hu.2.size) n0 n1).mono (fun e u' q => ⟨q.1, .of_disk q.2 hu.2 hdb⟩)
    cases hf : D.fate with
    | goes =>
      have e : D.create x = D.counted.made x := by simp [Dsk.create, hf]
      rw [e]
      exact operate_goes W00 db D bs bf vch mp fl W1 ad h1 hU1 hE hd hnn hna hf _ _ _ _ _ _ _ er ed hR hD
    | cut =>
      have e : D.create x = D.counted.made x := by simp [Dsk.create, hf]
      rw [e]
      exact operate_cut_done W00 db D bs bf vch mp fl W1 ad h1 hU1 hE hd hnn hna hf _ _ _ _ _ _ er ed hR hD
    | fails q =>
      have e : D.create x = D.counted := by simp [Dsk.create, hf]
      rw [e]
      exact operate_fails W00 db D bs bf vch mp fl W1 ad h1 hU1 hE hd hnn hna q hf _ _ _ _ _ _ er hR (fun u hu => .of_cnt hu)
  have hop2 : Calls Tryz.prog 65 #[.pointer (some ⟨db, 0, none⟩), .agg #[clo 83 #[.pointer (some ⟨B + 1, 0, none⟩), .pointer (some ⟨B, 0, none⟩)], clo 85 #[.pointer (some ⟨B, 0, none⟩), .pointer (some ⟨B + 1, 0, none⟩)], .nilFunc, .bool true]] W1 fun e w' => e = .returned (D.fate.err ad) ∧ OpDone w W00.heap.size db (D.create x) (dl db bs bf vch mp fl) w' := hop.mono (fun e w' q => ⟨q.1, q.2.up u1⟩)
  have c0 : W1.cell? ⟨B, 0, none⟩ = some (.pointer (some ⟨db, 0, none⟩)) := b0.cell 0
  have c1 : W1.cell? ⟨B + 1, 0, none⟩ = some (Sv x) := b1.cell 0
  have HO : Hid (∀ e w', (e = Ending.returned (D.fate.err ad) ∧ OpDone w W00.heap.size db (D.create x) (dl db bs bf vch mp fl) w') → (e = Ending.returned (D.fate.err ad) ∧ OpDone w W00.heap.size db (D.create x) (dl db bs bf vch mp fl) w')) := fun _ _ q => q
  have hmf : ∀ (fn : Fn) (first cap : Array Value) (w : World), (Instr.makeFunc fn first cap).run Tryz.prog w = .ok (.func fn first cap) w := fun _ _ _ _ => rfl
  obtain ⟨ER, hER⟩ : ∃ ER, D.fate.err ad = ER := ⟨_, rfl⟩
  rw [hER] at hop2 ⊢
  clear hop HO hER h1 hU1 hdl hbase hkn n0 d0 n1 d1 hV hU hE hok hr u1 b0 b1 hdb
  go_enter Tryz.func41, Tryz.ntmps41
  go_wp2_with fail
  refine hop2.mono ?_
  rintro e w2 ⟨rfl, r2⟩
  clear hop2
  go_wp2
  go_ret
  exact ⟨rfl, r2⟩

theorem names1_any (w : World) : Calls Tryz.prog 87 #[] w fun e w' => e = .returned .nilIface ∧ Up w w' := by
  go_enter Tryz.func87, Tryz.ntmps87
  go_wp2
  go_ret
  exact ⟨rfl, Up.refl _⟩
theorem names2_any (kd : Nat) (base db : Nat) (D : Dsk) (bs bf : Nat) (vch : Value) (mp : Option Nat) (fl : Fls) (c : Chg) (j : Nat) (w : World) (h : DiskV w base db D bs bf vch mp fl) (cd : w.cell? ⟨kd, 0, none⟩ = some (.pointer (some ⟨db, 0, none⟩))) (h1 : D.chg = [c]) (hc : c.tt ≠ []) (hf : c.file = some j) (hl1 : c.frm.length ≤ maxLen) (hl2 : c.tt.length ≤ maxLen) (hn : D.room ≤ 100000000000) (hbase : base ≤ w.heap.size) :
    Calls Tryz.prog 88 #[.pointer (some ⟨kd, 0, none⟩)] w fun e w' => e = .returned (.tuple #[]) ∧ OpDone w base db D.named (dl db bs bf vch mp fl) w' := by
  have hq := syncNames_one base db D bs bf vch mp fl c j w h h1 hc hf hl1 hl2 hn hbase
  go_enter Tryz.func88, Tryz.ntmps88
  go_wp2_with fail
  refine hq.mono ?_
  rintro e w1 ⟨rfl, v', h2, h3, h4⟩
  go_wp2
  go_end0
  exact ⟨rfl, _, ⟨_, _, _, _, _, h2, rfl⟩, h3, h4⟩

set_option maxRecDepth 20000 in
set_option maxHeartbeats 800000 in
theorem DiskNames_any (W00 : World) (db : Nat) (D : Dsk) (L : List Nat) (w : World) (ad : Nat → Addr) (c : Chg) (j : Nat) (h : DiskAt w W00.heap.size db D L) (hU : Up W00 w) (hE : ErrSet segErrs errTxt W00 ad) (hd : D.down = false) (hok : D.Ok) (hr : D.room ≤ 1000000000) (hc1 : D.chg = [c]) (hc2 : c.tt ≠ []) (hc3 : c.file = some j) (hc4 : c.frm.length ≤ maxLen) (hc5 : c.tt.length ≤ maxLen) :
    Calls Tryz.prog 42 #[.pointer (some ⟨db, 0, none⟩)] w fun e w' => e = .returned (D.fate.err ad) ∧ OpDone w W00.heap.size db D.syncNames L w' := by
  obtain ⟨bs, bf, vch, mp, fl, hV, rfl⟩ := h
  obtain ⟨W1, hW1⟩ : ∃ W1, w.alloc (.cells #[.pointer (some ⟨db, 0, none⟩)] 36) = W1 := ⟨_, rfl⟩
  have u1 : Up w W1 := by rw [← hW1]; exact Up.alloc _ _
  obtain ⟨B, hB⟩ : ∃ B, w.heap.size = B := ⟨_, rfl⟩
  have b0 : Box W1 (B) #[.pointer (some ⟨db, 0, none⟩)] := by rw [← hW1]; exact Box.newAt (by simp [hB])
  have h1 := hV.up u1
  have hU1 := hU.trans u1
  have hdl := hV.lt
  have hbase : W00.heap.size ≤ W1.heap.size := hU1.size
  have hkn : ∀ k ∈ dl db bs bf vch mp fl, k < B := fun k hk => by have := hdl k hk; omega
  have n0 : B ∉ dl db bs bf vch mp fl := fun hm => by have := hkn _ hm; omega
  have d0 : B ∉ [db] := fun hm => n0 (by simp at hm; simp [hm])
  have hdb : db ∈ dl db bs bf vch mp fl := by simp
  have hop : Calls Tryz.prog 65 #[.pointer (some ⟨db, 0, none⟩), .agg #[clo 87 #[], clo 88 #[.pointer (some ⟨B, 0, none⟩)], .nilFunc, .bool false]] W1 fun e w' => e = .returned (D.fate.err ad) ∧ OpDone W1 W00.heap.size db D.syncNames (dl db bs bf vch mp fl) w' := by
    have hnn : D.ops ≤ 1000000000000 := by have := hok.num; omega
    have hna := hok.num.2.2.1
    have er : Enters Tryz.prog 87 := enters_of Tryz.func87 (by kernel_rfl) rfl
    have ed : Enters Tryz.prog 88 := enters_of Tryz.func88 (by kernel_rfl) rfl
    have hR : ∀ u, Cnt W1 W00.heap.size db D bs bf vch mp fl u → Calls Tryz.prog 87 #[] u fun e u' => e = .returned .nilIface ∧ Up u u' := fun u hu => names1_any u
    cases hf : D.fate with
    | goes =>
      have e : D.syncNames = D.counted.named := by simp [Dsk.syncNames, hf]
      rw [e]
      exact operate_goes W00 db D bs bf vch mp fl W1 ad h1 hU1 hE hd hnn hna hf _ _ _ _ _ _ _ er ed hR (fun u hu =>
        (names2_any B _ db D.counted bs bf vch mp fl c j u hu.1 ((hu.2.box b0 d0).cell 0) hc1 hc2 hc3 hc4 hc5 (by simp [Dsk.counted]; omega) (Nat.le_trans hbase hu.2.size)).mono (fun e u' q => ⟨q.1, .of_disk q.2 hu.2 hdb⟩))
    | cut =>
      have e : D.syncNames = D.counted := by simp [Dsk.syncNames, hf]
      rw [e]
      exact operate_cut_not W00 db D bs bf vch mp fl W1 ad h1 hU1 hE hd hnn hna hf _ _ _ _ _ _ er hR (fun u hu => .of_cnt hu)
    | fails q =>
      have e : D.syncNames = D.counted := by simp [Dsk.syncNames, hf]
      rw [e]
      exact operate_fails W00 db D bs bf vch mp fl W1 ad h1 hU1 hE hd hnn hna q hf _ _ _ _ _ _ er hR (fun u hu => .of_cnt hu)
  have hop2 : Calls Tryz.prog 65 #[.pointer (some ⟨db, 0, none⟩), .agg #[clo 87 #[], clo 88 #[.pointer (some ⟨B, 0, none⟩)], .nilFunc, .bool false]] W1 fun e w' => e = .returned (D.fate.err ad) ∧ OpDone w W00.heap.size db D.syncNames (dl db bs bf vch mp fl) w' := hop.mono (fun e w' q => ⟨q.1, q.2.up u1⟩)
  have c0 : W1.cell? ⟨B, 0, none⟩ = some (.pointer (some ⟨db, 0, none⟩)) := b0.cell 0
  have HO : Hid (∀ e w', (e = Ending.returned (D.fate.err ad) ∧ OpDone w W00.heap.size db D.syncNames (dl db bs bf vch mp fl) w') → (e = Ending.returned (D.fate.err ad) ∧ OpDone w W00.heap.size db D.syncNames (dl db bs bf vch mp fl) w')) := fun _ _ q => q
  have hmf : ∀ (fn : Fn) (first cap : Array Value) (w : World), (Instr.makeFunc fn first cap).run Tryz.prog w = .ok (.func fn first cap) w := fun _ _ _ _ => rfl
  obtain ⟨ER, hER⟩ : ∃ ER, D.fate.err ad = ER := ⟨_, rfl⟩
  rw [hER] at hop2 ⊢
  clear hop HO hER h1 hU1 hdl hbase hkn n0 d0 hV hU hE hok hr u1 b0 hdb
  go_enter Tryz.func42, Tryz.ntmps42
  go_wp2_with fail
  refine hop2.mono ?_
  rintro e w2 ⟨rfl, r2⟩
  clear hop2
  go_wp2
  go_ret
  exact ⟨rfl, r2⟩

end Go.Proofs.YtkfjkfpodkbkaaaGreatDoor
