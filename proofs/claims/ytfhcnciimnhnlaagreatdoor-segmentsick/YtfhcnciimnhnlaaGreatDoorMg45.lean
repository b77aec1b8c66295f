/- Merged: SgSeg. -/
import Derived.Test.YtfhcnciimnhnlaaGreatDoorMg31
import Derived.Test.YtfhcnciimnhnlaaGreatDoorMg44
import Derived.Test.YtfhcnciimnhnlaaGreatDoorMg42
import Derived.Test.YtfhcnciimnhnlaaGreatDoorMg43
set_option linter.unusedVariables false
set_option linter.unusedSimpArgs false
namespace Go.Proofs.YtfhcnciimnhnlaaGreatDoor
open Go Go.RowKit

/-- What a segment's laws know of memory: the table of half bytes, the errors, one number of bits' table. -/
structure Ks (w : World) (ad : Nat → Addr) : Prop where
  tb : Tb w
  er : ErrSet segErrs errTxt w ad
  tz : w.cell? ⟨20, 15, none⟩ = some (.int .u8 4)
theorem Ks.up {w w' : World} {ad : Nat → Addr} (h : Ks w ad) (u : Up w w') : Ks w' ad := ⟨h.tb.up u, h.er.up u, by rw [u.cell (World.block_lt_of_cell? w _ h.tz)]; exact h.tz⟩
theorem blk_seg : ∀ g ∈ blkErrs, g ∈ segErrs := by decide
theorem Ks.gl {w : World} {ad : Nat → Addr} (h : Ks w ad) : GlS w ad := fun g hg => (h.er g (blk_seg g hg)).1

/-- A segment's struct. -/
abbrev scells (db : Nat) (nm : Nm) (next blocks : Nat) (whole sick : Bool) : Array Value := #[.pointer (some ⟨db, 0, none⟩), Sv nm, .int .u64 (next : Int), .int .i64 (blocks : Int), .bool whole, .bool sick]

theorem isNumber_any (x : Nat) (w : World) (h1 : 1 ≤ x) (h2 : x ≤ 4611686018427387904) : Calls Tryz.prog 79 #[.int .u64 (x : Int)] w fun e w' => e = .returned (.bool true) ∧ w' = w := by
  have e1 : 0 < x := h1
  have e2 : (x : Int) ≤ 4611686018427387904 := by omega
  clear h1 h2
  go_enter Tryz.func79, Tryz.ntmps79
  go_wp2
  go_ret
  exact ⟨rfl, rfl⟩
theorem refusal_any (db x : Nat) (w : World) (h1 : 1 ≤ x) (h2 : x ≤ 4611686018427387904) : Calls Tryz.prog 84 #[.pointer (some ⟨db, 0, none⟩), .int .u64 (x : Int)] w fun e w' => e = .returned .nilIface ∧ w' = w := by
  have hi := isNumber_any x w h1 h2
  clear h1 h2
  go_enter Tryz.func84, Tryz.ntmps84
  go_wp2_with fail
  refine hi.mono ?_
  rintro e w1 ⟨rfl, hw⟩
  obtain rfl : w = w1 := hw.symm
  clear hi
  go_wp2
  go_ret
  exact ⟨rfl, rfl⟩
theorem Next_any (sb db : Nat) (nm : Nm) (next blocks : Nat) (whole sick : Bool) (w : World) (h : Box w sb (scells db nm next blocks whole sick)) : Calls Tryz.prog 34 #[.pointer (some ⟨sb, 0, none⟩)] w fun e w' => e = .returned (.int .u64 (next : Int)) ∧ w' = w := by
  have c : w.cell? ⟨sb, 2, none⟩ = some (.int .u64 (next : Int)) := h.cell 2
  go_enter Tryz.func34, Tryz.ntmps34
  go_wp2
  go_ret
  exact ⟨rfl, rfl⟩
theorem Blocks_any (sb db : Nat) (nm : Nm) (next blocks : Nat) (whole sick : Bool) (w : World) (h : Box w sb (scells db nm next blocks whole sick)) : Calls Tryz.prog 42 #[.pointer (some ⟨sb, 0, none⟩)] w fun e w' => e = .returned (.int .i64 (blocks : Int)) ∧ w' = w := by
  have c : w.cell? ⟨sb, 3, none⟩ = some (.int .i64 (blocks : Int)) := h.cell 3
  go_enter Tryz.func42, Tryz.ntmps42
  go_wp2
  go_ret
  exact ⟨rfl, rfl⟩
theorem Whole_any (sb db : Nat) (nm : Nm) (next blocks : Nat) (whole sick : Bool) (w : World) (h : Box w sb (scells db nm next blocks whole sick)) : Calls Tryz.prog 43 #[.pointer (some ⟨sb, 0, none⟩)] w fun e w' => e = .returned (.bool whole) ∧ w' = w := by
  have c : w.cell? ⟨sb, 4, none⟩ = some (.bool whole) := h.cell 4
  go_enter Tryz.func43, Tryz.ntmps43
  go_wp2
  go_ret
  exact ⟨rfl, rfl⟩
theorem sready_ok (sb db : Nat) (nm : Nm) (next blocks : Nat) (whole : Bool) (w : World) (h : Box w sb (scells db nm next blocks whole false)) : Calls Tryz.prog 87 #[.pointer (some ⟨sb, 0, none⟩)] w fun e w' => e = .returned .nilIface ∧ w' = w := by
  have c : w.cell? ⟨sb, 5, none⟩ = some (.bool false) := h.cell 5
  go_enter Tryz.func87, Tryz.ntmps87
  go_wp2
  go_ret
  exact ⟨rfl, rfl⟩
theorem sready_sick (sb db : Nat) (nm : Nm) (next blocks : Nat) (whole : Bool) (w : World) (a : Addr) (h : Box w sb (scells db nm next blocks whole true)) (ha : w.cell? ⟨4, 0, none⟩ = some (E a)) : Calls Tryz.prog 87 #[.pointer (some ⟨sb, 0, none⟩)] w fun e w' => e = .returned (E a) ∧ w' = w := by
  have c : w.cell? ⟨sb, 5, none⟩ = some (.bool true) := h.cell 5
  go_enter Tryz.func87, Tryz.ntmps87
  go_wp2
  go_ret
  exact ⟨rfl, rfl⟩
theorem meet_nil (sb : Nat) (w : World) : Calls Tryz.prog 88 #[.pointer (some ⟨sb, 0, none⟩), .nilIface] w fun e w' => e = .returned .nilIface ∧ w' = w := by
  go_enter Tryz.func88, Tryz.ntmps88
  go_wp2
  go_ret
  exact ⟨rfl, rfl⟩
theorem meet_err (sb db : Nat) (nm : Nm) (next blocks : Nat) (whole sick : Bool) (a : Addr) (w : World) (h : Box w sb (scells db nm next blocks whole sick)) : Calls Tryz.prog 88 #[.pointer (some ⟨sb, 0, none⟩), E a] w fun e w' => e = .returned (E a) ∧ Box w' sb (scells db nm next blocks whole true) ∧ Touch w w' [sb] := by
  have c : w.cell? ⟨sb, 5, none⟩ = some (.bool sick) := h.cell 5
  have f : w.frozen? ⟨sb, 5, none⟩ = false := h.frozen 5
  go_enter Tryz.func88, Tryz.ntmps88
  go_wp2
  go_ret
  exact ⟨rfl, h.set 5 _, (Touch.refl _ _).setCell (.inl (by simp)) _ _⟩
theorem sizeOf_any (n : Nat) (w : World) (h : n ≤ 1000000000) : Calls Tryz.prog 94 #[.int .i64 (n : Int)] w fun e w' => e = .returned (.int .i64 ((512 * n : Nat) : Int)) ∧ w' = w := by
  have e : IntKind.i64.wrap ((n : Int) * 512) = ((512 * n : Nat) : Int) := by rw [IntKind.wrap_i64]; omega
  have e2 : (n : Int) ≤ 1000000000 := by omega
  clear h
  go_enter Tryz.func94, Tryz.ntmps94
  go_wp2
  go_ret
  refine ⟨?_, rfl⟩
  refine congrArg (fun z => Ending.returned (Value.int .i64 z)) (?_ : _ = _)
  omega

set_option maxRecDepth 20000 in
set_option maxHeartbeats 800000 in
/-- Create on a new disk. -/
theorem SegCreate_new (W00 : World) (db : Nat) (L : List Nat) (x : Nat) (w : World) (ad : Nat → Addr) (hk : Ks W00 ad) (hU : Up W00 w) (h : DiskAt w W00.heap.size db Dsk.new L) (h1 : 1 ≤ x) (h2 : x ≤ 4611686018427387904) :
    Calls Tryz.prog 32 #[.pointer (some ⟨db, 0, none⟩), .int .u64 (x : Int)] w fun e w' => ∃ sb L', e = .returned (.tuple #[.pointer (some ⟨sb, 0, none⟩), .nilIface]) ∧ Box w' sb (scells db (nameB x) x 0 true false) ∧
      DiskAt w' W00.heap.size db (sgD (nameB x) (Fil.made ⟨[], []⟩) 2 0 (fun _ => none) 0 3) L' ∧ sb ∉ L' ∧ W00.heap.size ≤ sb ∧ Up W00 w' := by
  have hlen := nameB_length x (by omega)
  obtain ⟨c1, c2, c3, c4, c5, c6, c7⟩ := new_create (nameB x) (nameB_ne x) (by omega)
  have hge : ∀ (D : Dsk) (L : List Nat) (u : World), DiskAt u W00.heap.size db D L → ∀ k ∈ L, W00.heap.size ≤ k := by
    rintro D L u ⟨_, _, _, _, _, q, rfl⟩; exact q.ge
  have hre := refusal_any db x w h1 h2
  have hnm := Name_any x w (by omega) (hk.up hU).tz
  have hcr : ∀ u, Up w u → Calls Tryz.prog 85 #[.pointer (some ⟨db, 0, none⟩), Sv (nameB x)] u fun e w' => e = .returned .nilIface ∧ ∃ L', DiskAt w' W00.heap.size db (Dsk.new.create (nameB x)) L' ∧ Up W00 w' := fun u uu => by
    obtain ⟨bs, bf, vch, mp, fl, q, rfl⟩ := h
    refine (DiskCreate_any W00 db Dsk.new _ u ad (nameB x) ⟨_, _, _, _, _, q.up uu, rfl⟩ (hU.trans uu) hk.er rfl Dsk.new_ok (by simp [Dsk.new]) rfl (nameB_ne x) (by omega)).mono ?_
    rintro e w1 ⟨rfl, L', d1, d2, d3⟩
    rw [c2]
    exact ⟨rfl, L', d1, Touch.up_of (hU.trans uu) d3 q.ge⟩
  have hsn : ∀ u L, DiskAt u W00.heap.size db (Dsk.new.create (nameB x)) L → Up W00 u → Calls Tryz.prog 59 #[.pointer (some ⟨db, 0, none⟩)] u fun e w' => e = .returned .nilIface ∧ ∃ L', DiskAt w' W00.heap.size db (sgD (nameB x) (Fil.made ⟨[], []⟩) 2 0 (fun _ => none) 0 3) L' ∧ Up W00 w' := fun u L hd uu => by
    refine (DiskNames_any W00 db _ L u ad ⟨[], nameB x, some 0⟩ 0 hd uu hk.er c5 c6 (by rw [c7]; omega) c4 (nameB_ne x) rfl (by unfold maxLen; simp) (by show (nameB x).length ≤ maxLen; unfold maxLen; omega)).mono ?_
    rintro e w1 ⟨rfl, L', d1, d2, d3⟩
    rw [c3]
    rw [c1] at d1
    exact ⟨rfl, L', d1, Touch.up_of uu d3 (hge _ _ _ hd)⟩
  have HC : Hid (∀ u, Up w u → Calls Tryz.prog 85 #[.pointer (some ⟨db, 0, none⟩), Sv (nameB x)] u fun e w' => e = .returned .nilIface ∧ ∃ L', DiskAt w' W00.heap.size db (Dsk.new.create (nameB x)) L' ∧ Up W00 w') := hcr
  have HS : Hid (∀ u L, DiskAt u W00.heap.size db (Dsk.new.create (nameB x)) L → Up W00 u → Calls Tryz.prog 59 #[.pointer (some ⟨db, 0, none⟩)] u fun e w' => e = .returned .nilIface ∧ ∃ L', DiskAt w' W00.heap.size db (sgD (nameB x) (Fil.made ⟨[], []⟩) 2 0 (fun _ => none) 0 3) L' ∧ Up W00 w') := hsn
  have HG : Hid (∀ (D : Dsk) (L : List Nat) (u : World), DiskAt u W00.heap.size db D L → ∀ k ∈ L, k < u.heap.size) := by
    rintro D L u ⟨_, _, _, _, _, q, rfl⟩; exact q.lt
  clear hlen c1 c2 c3 c4 c5 c6 c7 hge hk hU h h1 h2 hcr hsn
  go_enter Tryz.func32, Tryz.ntmps32
  go_wp2_with fail
  refine hre.mono ?_
  rintro e w1 ⟨rfl, hw⟩
  obtain rfl : w = w1 := hw.symm
  clear hre
  go_wp2_with fail
  refine hnm.mono ?_
  rintro e w1 ⟨rfl, u1⟩
  clear hnm
  have hc1 := HC.out w1 u1
  go_wp2_with fail
  refine hc1.mono ?_
  rintro e w2 ⟨rfl, L2, d2, u2⟩
  clear hc1
  have hs2 := HS.out w2 L2 d2 u2
  clear d2 u2
  go_wp2_with fail
  refine hs2.mono ?_
  rintro e w3 ⟨rfl, L3, d3, u3⟩
  clear hs2
  have H3 : Hid (DiskAt w3 W00.heap.size db (sgD (nameB x) (Fil.made ⟨[], []⟩) 2 0 (fun _ => none) 0 3) L3 ∧ Up W00 w3) := ⟨d3, u3⟩
  clear d3 u3
  go_wp2
  go_ret2
  obtain ⟨d3, u3⟩ := H3.out
  refine ⟨_, L3, rfl, Box.new _ _ _, ?_, fun hm => ?_, u3.size, u3.trans (Up.alloc _ _)⟩
  · obtain ⟨bs, bf, vch, mp, fl, q, rfl⟩ := d3
    exact ⟨_, _, _, _, _, q.up (Up.alloc _ _), rfl⟩
  · have := HG.out _ _ _ d3 _ hm
    omega
end Go.Proofs.YtfhcnciimnhnlaaGreatDoor
