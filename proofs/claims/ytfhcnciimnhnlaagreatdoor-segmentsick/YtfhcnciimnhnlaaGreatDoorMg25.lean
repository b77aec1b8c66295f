/- Merged: DkOp3. -/
import Derived.Test.YtfhcnciimnhnlaaGreatDoorMg24
set_option linter.unusedVariables false
set_option linter.unusedSimpArgs false
namespace Go.Proofs.YtfhcnciimnhnlaaGreatDoor
open Go Go.RowKit Go.Maps

theorem append1_any (kd kn db bs n : Nat) (x : Nm) (m : Nm → Option Nat) (k : Nat) (w : World) (cd : w.cell? ⟨kd, 0, none⟩ = some (.pointer (some ⟨db, 0, none⟩))) (cn : w.cell? ⟨kn, 0, none⟩ = some (Sv x)) (h0 : w.cell? ⟨db, 0, none⟩ = some (.map (some bs))) (hm : MapIs w bs n m) (hk : m x = some k) (hl : x.length ≤ maxLen) :
    Calls Tryz.prog 102 #[.pointer (some ⟨kd, 0, none⟩), .pointer (some ⟨kn, 0, none⟩)] w fun e w' => e = .returned .nilIface ∧ Up w w' := by
  have hmi := missing_not db bs n x m k w h0 hm hk hl
  go_enter Tryz.func102, Tryz.ntmps102
  go_wp2_with fail
  refine hmi.mono ?_
  rintro e w1 ⟨rfl, hw⟩
  obtain rfl : w = w1 := hw.symm
  go_wp2
  go_ret
  exact ⟨rfl, Up.refl _⟩
theorem sync1_any (kd kn db bs n : Nat) (x : Nm) (m : Nm → Option Nat) (k : Nat) (w : World) (cd : w.cell? ⟨kd, 0, none⟩ = some (.pointer (some ⟨db, 0, none⟩))) (cn : w.cell? ⟨kn, 0, none⟩ = some (Sv x)) (h0 : w.cell? ⟨db, 0, none⟩ = some (.map (some bs))) (hm : MapIs w bs n m) (hk : m x = some k) (hl : x.length ≤ maxLen) :
    Calls Tryz.prog 159 #[.pointer (some ⟨kd, 0, none⟩), .pointer (some ⟨kn, 0, none⟩)] w fun e w' => e = .returned .nilIface ∧ Up w w' := by
  have hmi := missing_not db bs n x m k w h0 hm hk hl
  go_enter Tryz.func159, Tryz.ntmps159
  go_wp2_with fail
  refine hmi.mono ?_
  rintro e w1 ⟨rfl, hw⟩
  obtain rfl : w = w1 := hw.symm
  go_wp2
  go_ret
  exact ⟨rfl, Up.refl _⟩

/-- A disk of which the file i is another one. -/
def FileDone (w : World) (base db : Nat) (D : Dsk) (i : Nat) (f : Fil → Fil) (L : List Nat) (w' : World) : Prop :=
  ∃ L', DiskAt w' base db (D.at i f) L' ∧ (∀ k ∈ L', k ∈ L ∨ w.heap.size ≤ k) ∧ Touch w w' L

theorem DiskV.done {w w' : World} {base db : Nat} {D : Dsk} {bs bf : Nat} {vch : Value} {mp : Option Nat} {fl : Fls} {i : Nat} {F : Fil} {L L' : List Nat} {f : Fil → Fil} (h : DiskV w base db D bs bf vch mp fl) (hi : D.fs[i]? = some F) (hp : fl[i]? = some (blk fl i, L)) (hf : FileAt w' base (blk fl i) ((i : Int) + 1) (f F) L') (hn : ∀ k ∈ L', k ∈ L ∨ w.heap.size ≤ k) (t : Touch w w' L) (hbase : base ≤ w.heap.size) :
    FileDone w base db D i f (dl db bs bf vch mp fl) w' := by
  obtain ⟨q1, q2⟩ := h.at hi hp hf t hn hbase
  refine ⟨_, ⟨_, _, _, _, _, q1, rfl⟩, q2, t.mono (fun k hk => .inl ?_)⟩
  have : k ∈ fl.flatMap (·.2) := List.mem_flatMap.2 ⟨_, List.mem_of_getElem? hp, hk⟩
  simp [this]

/-- The disk's own blocks are none of a file's. -/
theorem DiskV.apart {w : World} {base db : Nat} {D : Dsk} {bs bf : Nat} {vch : Value} {mp : Option Nat} {fl : Fls} {i : Nat} {p : Nat × List Nat} (h : DiskV w base db D bs bf vch mp fl) (hp : fl[i]? = some p) : ∀ k ∈ db :: bs :: bf :: (ob vch ++ mp.toList), k ∉ p.2 := fun k hk hm => by
  have nd := h.nd
  have hk2 : k ∈ fl.flatMap (·.2) := List.mem_flatMap.2 ⟨_, List.mem_of_getElem? hp, hm⟩
  have e : dl db bs bf vch mp fl = (db :: bs :: bf :: (ob vch ++ mp.toList)) ++ fl.flatMap (·.2) := by simp [dl]
  rw [e, List.nodup_append] at nd
  exact nd.2.2 k hk k hk2 rfl

set_option maxRecDepth 20000 in
set_option maxHeartbeats 800000 in
theorem append2_any (kd kn kv : Nat) (base db : Nat) (D : Dsk) (bs bf : Nat) (vch : Value) (mp : Option Nat) (fl : Fls) (w : World) (x : Nm) (i : Nat) (F : Fil) (vx : Value) (d : List UInt8) (h : DiskV w base db D bs bf vch mp fl)
    (cd : w.cell? ⟨kd, 0, none⟩ = some (.pointer (some ⟨db, 0, none⟩))) (cn : w.cell? ⟨kn, 0, none⟩ = some (Sv x)) (cv : w.cell? ⟨kv, 0, none⟩ = some vx)
    (hx : D.seen x = some i) (hi : D.fs[i]? = some F) (hF : F.Ok) (hbase : base ≤ w.heap.size) (hs : Sl 0 w vx d) (hsn : d ≠ [] → ∀ k, vx.ownBlock = some k → k ∉ dl db bs bf vch mp fl) (hl : F.seen.data.length + d.length ≤ CB) (hlx : x.length ≤ maxLen) :
    Calls Tryz.prog 103 #[.pointer (some ⟨kd, 0, none⟩), .pointer (some ⟨kn, 0, none⟩), .pointer (some ⟨kv, 0, none⟩)] w fun e w' => e = .returned (.tuple #[]) ∧ FileDone w base db D i (·.add d) (dl db bs bf vch mp fl) w' := by
  obtain ⟨L, hp, hfa⟩ := h.file hi
  have hLin : ∀ k ∈ L, k ∈ dl db bs bf vch mp fl := fun k hk => by
    have : k ∈ fl.flatMap (·.2) := List.mem_flatMap.2 ⟨_, List.mem_of_getElem? hp, hk⟩
    simp [this]
  have ud := Up.drew w
  have hlook := (h.see.up ud).look hlx
  rw [show nmap fl D.seen x = some (blk fl i) by simp [nmap, hx]] at hlook
  have hadd := add_any base (blk fl i) ((i : Int) + 1) F L vx d w.drew (hfa.kept (Touch.of_up ud []) (fun _ _ => by simp)) hF (Nat.le_trans hbase ud.size) (hs.up ud) (fun hne k hk hm => hsn hne k hk (hLin k hm)) hl
  have c0 : w.drew.cell? ⟨db, 0, none⟩ = some (.map (some bs)) := (h.box.up ud).cell 0
  have cd' : w.drew.cell? ⟨kd, 0, none⟩ = some (.pointer (some ⟨db, 0, none⟩)) := cd
  have cn' : w.drew.cell? ⟨kn, 0, none⟩ = some (Sv x) := cn
  have cv' : w.drew.cell? ⟨kv, 0, none⟩ = some vx := cv
  have HH : Hid (DiskV w base db D bs bf vch mp fl ∧ D.fs[i]? = some F ∧ fl[i]? = some (blk fl i, L) ∧ base ≤ w.heap.size) := ⟨h, hi, hp, hbase⟩
  have HA : Hid (Calls Tryz.prog 104 #[.pointer (some ⟨blk fl i, 0, none⟩), vx] w.drew fun e w' => ∃ L', e = .returned (.tuple #[]) ∧ FileAt w' base (blk fl i) ((i : Int) + 1) (F.add d) L' ∧ (∀ k ∈ L', k ∈ L ∨ w.drew.heap.size ≤ k) ∧ Touch w.drew w' L) := hadd
  clear h hi hp hbase hs hsn hF hl hfa hLin hx cd cn cv hadd
  go_enter Tryz.func103, Tryz.ntmps103
  go_region_with (go_at_call 104; refine HA.out.mono ?_; rintro e w1 ⟨L', rfl, hf1, hn1, t1⟩)
  all_goals
    go_wp2
    go_end0
    obtain ⟨h, hi, hp, hbase⟩ := HH.out
    exact ⟨rfl, h.done hi hp hf1 hn1 ((Touch.of_up ud L).trans t1 (fun k hk => .inl hk)) hbase⟩

end Go.Proofs.YtfhcnciimnhnlaaGreatDoor
