/- Merged: SgOpen, SgAwake. -/
import Derived.Test.YtkfjkfpodkbkaaaGreatDoorMg37
import Derived.Test.YtkfjkfpodkbkaaaGreatDoorMg36
set_option linter.unusedVariables false
set_option linter.unusedSimpArgs false
namespace Go.Proofs.YtkfjkfpodkbkaaaGreatDoor
open Go Go.RowKit

theorem OwnN.nilI {w : World} {base : Nat} {v : Value} (h : OwnN w base v []) : SlI w v [] := by
  rcases h.2 with ⟨rfl, _⟩ | ⟨g, cap, cur, rfl, hb, hg, hnc, hcm, hcs, ht⟩
  · exact SlI.nil _
  · exact ⟨_, _, rfl, Nat.zero_le _, (by intro e; cases e), fun hne => absurd rfl hne⟩

set_option maxRecDepth 20000 in
set_option maxHeartbeats 1600000 in
theorem SegOpen_any (W00 w : World) (db x : Nat) (F : Fil) (ops ahead : Nat) (parts : Int → Option Int) (cut : Int) (room : Nat) (Ld : List Nat) (ad : Nat → Addr) (hk : Ks W00 ad) (hU : Up W00 w) (h : DiskAt w W00.heap.size db (sgD (nameB x) F ops ahead parts cut room) Ld) (h1 : 1 ≤ x) (h2 : x ≤ 4611686018427387904) (hF : F.Ok) (hb : F.seen.bad = []) (hl : F.seen.data.length ≤ 1000000000)
    (RES : List Rec × Nat) (hres : scanB (badOf []) (F.seen.data.length / 512) F.seen.data 0 x = RES) (hn : RES.1.length ≤ 1000000000) (hn2 : RES.2 ≤ 1000000000) :
    Calls Tryz.prog 22 #[.pointer (some ⟨db, 0, none⟩), .int .u64 (x : Int)] w fun e w' => ∃ sb v' vs B, e = .returned (.tuple #[.pointer (some ⟨sb, 0, none⟩), v', .nilIface]) ∧ Box w' sb (scells db (nameB x) (x + RES.1.length) RES.2 (decide (512 * RES.2 = F.seen.data.length)) false) ∧
      Recs w' B v' RES.1 vs ∧ Up w w' ∧ w.heap.size ≤ sb ∧ w.heap.size ≤ B := by
  have hlen := nameB_length x (by omega)
  have hre := refusal_any db x w h1 h2
  have hnm := Name_any x w (by omega) (hk.up hU).tz
  have HR : Hid (∀ u, Up w u → Calls Tryz.prog 28 #[.pointer (some ⟨db, 0, none⟩), Sv (nameB x)] u fun e w' => ∃ vd vb, e = .returned (.tuple #[vd, vb, .nilIface]) ∧ Copied u w' u.heap.size vd vb F.seen) := fun u uu =>
    Read_any W00.heap.size db _ Ld u (nameB x) 0 F (h.up uu) rfl (sgD_seen _ _ _ _ _ _ _) rfl hF (by unfold CB; omega) (by unfold maxLen; omega)
  have HS : Hid (∀ u base v vb, Up w u → Sl base u v F.seen.data → SlI u vb [] → Calls Tryz.prog 30 #[v, vb, .int .u64 (x : Int)] u fun e w' => ∃ v' vs, e = .returned (.tuple #[v', .int .i64 (RES.2 : Int)]) ∧ Recs w' u.heap.size v' RES.1 vs ∧ Up u w') := fun u base v vb uu hs hsb => by
    have := Scan_any base v vb F.seen.data [] x u ad (hk.up (hU.trans uu)).tb (hk.up (hU.trans uu)).gl hs hsb (by omega) (by simp) (by simp) (by omega)
    rwa [hres] at this
  have HZ : Hid (∀ u, Calls Tryz.prog 58 #[.int .i64 (RES.2 : Int)] u fun e w' => e = .returned (.int .i64 ((512 * RES.2 : Nat) : Int)) ∧ w' = u) := fun u => sizeOf_any RES.2 u hn2
  obtain ⟨Z, hZ⟩ : ∃ Z, F.seen.data.length = Z := ⟨_, rfl⟩
  obtain ⟨NR, hNR⟩ : ∃ NR, RES.1.length = NR := ⟨_, rfl⟩
  obtain ⟨Y, hY⟩ : ∃ Y, 512 * RES.2 = Y := ⟨_, rfl⟩
  have w1 : IntKind.u64.wrap (NR : Int) = (NR : Int) := by rw [IntKind.wrap_u64]; omega
  have w2 : IntKind.u64.wrap ((x : Int) + (NR : Int)) = (x : Int) + (NR : Int) := by rw [IntKind.wrap_u64]; omega
  have HQ : Hid (F.seen.data.length = Z ∧ RES.1.length = NR ∧ 512 * RES.2 = Y ∧ F.seen.bad = []) := ⟨hZ, hNR, hY, hb⟩
  clear hlen h h1 h2 hF hb hl hres hn hn2 hk hU
  go_enter Tryz.func22, Tryz.ntmps22
  go_wp2_with fail
  refine hre.mono ?_
  rintro e w3 ⟨rfl, hw⟩
  obtain rfl : w = w3 := hw.symm
  clear hre
  go_wp2_with fail
  refine hnm.mono ?_
  rintro e w3 ⟨rfl, u3⟩
  clear hnm
  have hrd := HR.out w3 u3
  go_wp2_with fail
  refine hrd.mono ?_
  rintro e w4 ⟨vd, vb, rfl, hc4⟩
  clear hrd
  have hsc := HS.out w4 0 vd vb (u3.trans hc4.up) hc4.dat.any0 (OwnN.nilI (by have := hc4.bad; rw [HQ.out.2.2.2] at this; exact this))
  have U4 := u3.trans hc4.up
  obtain ⟨pd, qd, rfl⟩ := hc4.dat.slice
  obtain ⟨pb, qb, rfl⟩ := hc4.bad.slice
  rw [HQ.out.1] at hsc ⊢
  clear hc4 u3
  go_wp2_with fail
  refine hsc.mono ?_
  rintro e w5 ⟨v', vs, rfl, r5, u5⟩
  clear hsc
  have hz := HZ.out w5
  obtain ⟨a6, c6, e6⟩ := r5.slice
  subst e6
  rw [HQ.out.2.1] at r5 ⊢
  rw [HQ.out.2.2.1] at hz
  have H5 : Hid (Recs w5 w4.heap.size (.slice a6 NR c6) RES.1 vs ∧ Up w w5 ∧ w.heap.size ≤ w4.heap.size) := ⟨r5, U4.trans u5, U4.size⟩
  clear r5 U4 u5
  go_wp2_with fail
  refine hz.mono ?_
  rintro e w6 ⟨rfl, hw6⟩
  obtain rfl : w5 = w6 := hw6.symm
  clear hz
  go_wp2
  go_ret3
  obtain ⟨r5, u5, h5⟩ := H5.out
  have eb : ((Y : Int) == (Z : Int)) = decide (512 * RES.2 = F.seen.data.length) := by
    rw [HQ.out.2.2.1, HQ.out.1]
    rw [Bool.eq_iff_iff, beq_iff_eq, decide_eq_true_iff]
    exact Int.ofNat_inj
  have ec : scells db (nameB x) (x + RES.1.length) RES.2 (decide (512 * RES.2 = F.seen.data.length)) false = #[.pointer (some ⟨db, 0, none⟩), Sv (nameB x), .int .u64 ((x : Int) + (NR : Int)), .int .i64 (RES.2 : Int), .bool ((Y : Int) == (Z : Int)), .bool false] := by
    rw [eb, HQ.out.2.1]
    simp [scells]
  refine ⟨_, _, vs, _, rfl, ?_, r5.up (Up.alloc _ _), u5.trans (Up.alloc _ _), u5.size, h5⟩
  rw [ec]
  exact Box.new _ _ _
end Go.Proofs.YtkfjkfpodkbkaaaGreatDoor

set_option linter.unusedVariables false
set_option linter.unusedSimpArgs false
namespace Go.Proofs.YtkfjkfpodkbkaaaGreatDoor
open Go Go.RowKit

theorem add_data (F : Fil) (d : List UInt8) : (F.add d).seen.data = F.seen.data ++ d := by
  unfold Fil.add
  split
  · rename_i h; simp [h]
  · rename_i h
    show (F.seen.put F.seen.data.length d).data = _
    unfold Con.put
    rw [if_neg h]
    exact over_end _ _
theorem add_bad (F : Fil) (d : List UInt8) (hb : F.seen.bad = []) : (F.add d).seen.bad = [] := by
  unfold Fil.add
  split
  · exact hb
  · rename_i h
    show (F.seen.put F.seen.data.length d).bad = _
    unfold Con.put
    rw [if_neg h]
    show cutOut F.seen.bad _ _ = []
    rw [hb]; simp [cutOut]
theorem name255 : (nameB 255) = [108, 111, 103, 46, 48, 48, 48, 48, 48, 48, 48, 48, 48, 48, 48, 48, 48, 48, 102, 102] := by decide +kernel
theorem abc2_length : (packB 7 [[97, 98], [99]]).length = 512 := by decide +kernel
theorem abc2_scan : scanB (badOf []) 1 (packB 7 [[97, 98], [99]]) 0 7 = ([[97, 98], [99]], 1) := by
  have h := scan_packed (first := 7) (rs := [[97, 98], [99]]) (by decide) (by omega) (by decide)
  rwa [abc2_length] at h

set_option maxRecDepth 20000 in
set_option maxHeartbeats 3200000 in
theorem sawake_any (w : World) (ad : Nat → Addr) (hk : Ks w ad) : Calls Tryz.prog 8 #[] w fun e w' => e = .returned (.bool true) ∧ Up w w' := by
  have HK : Hid (Ks w ad) := hk
  have hnew := New_any w
  clear hk
  go_enter Tryz.func8, Tryz.ntmps8
  go_wp2_with fail
  refine hnew.mono ?_
  rintro e w1 ⟨db, L1, rfl, d1, u1⟩
  clear hnew
  have hcr := SegCreate_new w db L1 7 w1 ad HK.out u1 d1 (by omega) (by omega)
  clear d1 u1
  go_wp2_with fail
  refine hcr.mono ?_
  rintro e w2 ⟨sb, L2, rfl, b2, d2, n2, g2, u2⟩
  clear hcr
  have H2 : Hid (SgAt w w2 db sb (nameB 7) 7 0 true false (sgD (nameB 7) (Fil.made ⟨[], []⟩) 2 0 (fun _ => none) 0 3) L2) := ⟨b2, d2, n2, g2, u2⟩
  have q1 := Next_any sb db (nameB 7) 7 0 true false w2 b2
  have q2 := Blocks_any sb db (nameB 7) 7 0 true false w2 b2
  have q3 := Whole_any sb db (nameB 7) 7 0 true false w2 b2
  clear b2 d2 n2 g2 u2
  go_wp2_with fail
  refine q1.mono ?_
  rintro e w3 ⟨rfl, hw3⟩
  obtain rfl : w2 = w3 := hw3.symm
  clear q1
  go_wp2_with fail
  refine q2.mono ?_
  rintro e w4 ⟨rfl, hw4⟩
  obtain rfl : w2 = w4 := hw4.symm
  clear q2
  go_wp2_with fail
  refine q3.mono ?_
  rintro e w5 ⟨rfl, hw5⟩
  obtain rfl : w2 = w5 := hw5.symm
  clear q3
  have kc2 := fun (X : Obj) (C : Array Value) (n c : Nat) => Lib.run_convert_bytes_const (P := Tryz.prog) (w2.alloc X) 60 5 C n c Tryz.underlying60 Tryz.underlying5
  have kc1 := fun (C : Array Value) (n c : Nat) => Lib.run_convert_bytes_const (P := Tryz.prog) w2 60 5 C n c Tryz.underlying60 Tryz.underlying5
  simp only [World.size_alloc] at kc2
  go_wp2_with fail
  clear kc1 kc2
  obtain ⟨wa, hwa⟩ : ∃ x, w2.alloc (.cells #[.int .u8 97, .int .u8 98] 5 (2, 3)) = x := ⟨_, rfl⟩
  have a1 : Up w2 wa := hwa ▸ Up.alloc _ _
  have hza : wa.heap.size = w2.heap.size + 1 := by rw [← hwa]; simp
  have sa : Sl w2.heap.size wa (.slice (some ⟨w2.heap.size, 0, none⟩) 2 2) [97, 98] := hwa ▸ sl_built w2 [97, 98] 5 (2, 3)
  rw [hwa]
  obtain ⟨wb, hwb⟩ : ∃ x, wa.alloc (.cells #[.int .u8 99] 5 (1, 2)) = x := ⟨_, rfl⟩
  have a2 : Up wa wb := hwb ▸ Up.alloc _ _
  have hzb : wb.heap.size = w2.heap.size + 1 + 1 := by rw [← hwb, ← hza]; simp
  have sb2 : Sl wa.heap.size wb (.slice (some ⟨w2.heap.size + 1, 0, none⟩) 1 1) [99] := by
    have h := sl_built wa [99] 5 (1, 2)
    rw [← hza, ← hwb]; exact h
  rw [hwb]
  obtain ⟨wc, hwc⟩ : ∃ x, wb.alloc (.cells #[.slice (some ⟨w2.heap.size, 0, none⟩) 2 2, .slice (some ⟨w2.heap.size + 1, 0, none⟩) 1 1] 60) = x := ⟨_, rfl⟩
  have a3 : Up wb wc := hwc ▸ Up.alloc _ _
  have hn := heap_alloc_new wb (.cells #[.slice (some ⟨w2.heap.size, 0, none⟩) 2 2, .slice (some ⟨w2.heap.size + 1, 0, none⟩) 1 1] 60)
  rw [hwc, hzb] at hn
  rw [hwc]
  have s5 := (sa.mono (Nat.zero_le _)).up (a2.trans a3)
  have s6 := (sb2.mono (Nat.zero_le _)).up a3
  have hrw : Rw wc (.slice (some ⟨w2.heap.size + 1 + 1, 0, none⟩) 2 2) [[97, 98], [99]] := by
    refine ⟨_, _, rfl, Nat.le_refl _, fun _ => ⟨_, _, rfl, fun i hi => ?_⟩⟩
    match i, hi with
    | 0, _ => exact ⟨_, by rw [cell_of_row _ _ _ _ _ _ hn]; rfl, s5⟩
    | 1, _ => exact ⟨_, by rw [cell_of_row _ _ _ _ _ _ hn]; rfl, s6⟩
  have hap := SegAppend_ok w wc db sb (nameB 7) 7 0 (Fil.made ⟨[], []⟩) 2 0 (fun _ => none) 0 3 L2 _ [[97, 98], [99]] ad (H2.out.next (a1.trans (a2.trans a3))) HK.out hrw (by simp) (by simp) (by omega) (by decide) (by decide) (sg_goes _ _ _ _) made_empty (by omega) (by omega) (by omega) (by omega) (by rw [abc2_length]; simp [Fil.made]) (by omega) (by rw [nameB_length 7 (by omega)]; omega) (fun k q h => by cases h)
  clear hn hwa hwb hwc a1 a2 a3 sa sb2 s5 s6 hza hzb hrw H2
  refine hap.mono ?_
  rintro e w6 ⟨L6, rfl, h6, -, -⟩
  clear hap
  have hF6 : ((Fil.made ⟨[], []⟩).add (packB 7 [[97, 98], [99]])).Ok := made_empty.add _
  have hd6 : ((Fil.made ⟨[], []⟩).add (packB 7 [[97, 98], [99]])).seen.data = packB 7 [[97, 98], [99]] := by rw [add_data]; rfl
  have hb6 : ((Fil.made ⟨[], []⟩).add (packB 7 [[97, 98], [99]])).seen.bad = [] := add_bad _ _ rfl
  have hsy := SegSync_ok w w6 db sb (nameB 7) _ _ true _ 3 0 (fun _ => none) 0 4 L6 ad h6 HK.out (sg_goes _ _ _ _) hF6 (by omega) (by omega) (by omega) (by omega) (by rw [hd6, abc2_length]; omega) (by rw [nameB_length 7 (by omega)]; omega)
  clear h6
  go_wp2_with fail
  refine hsy.mono ?_
  rintro e w7 ⟨L7, rfl, h7, -, -⟩
  clear hsy
  have hF7 := hF6.sync
  have hop := SegOpen_any w w7 db 7 _ 4 0 (fun _ => none) 0 5 L7 ad HK.out h7.up h7.dsk (by omega) (by omega) hF7 (by exact hb6) (by show ((Fil.made ⟨[], []⟩).add (packB 7 [[97, 98], [99]])).seen.data.length ≤ _; rw [hd6, abc2_length]; omega) ([[97, 98], [99]], 1) (by
    show scanB (badOf []) (((Fil.made ⟨[], []⟩).add (packB 7 [[97, 98], [99]])).seen.data.length / 512) ((Fil.made ⟨[], []⟩).add (packB 7 [[97, 98], [99]])).seen.data 0 7 = _
    rw [hd6, abc2_length]; exact abc2_scan) (by simp) (by simp)
  have U7 := h7.up
  clear h7 hF6 hd6 hb6 hF7
  go_wp2_with fail
  refine hop.mono ?_
  rintro e w8 ⟨sb8, v8, vs8, B8, rfl, b8, r8, u8, -, -⟩
  clear hop
  have U8 := U7.trans u8
  obtain ⟨b, o, cap, vi, hv2, hx⟩ := r8.rw.at 0 (by simp)
  obtain ⟨hc, hs⟩ := hx w8 (Up.refl _)
  obtain ⟨b', o', cap', vj, hv3, hy⟩ := r8.rw.at 1 (by simp)
  obtain ⟨hc', hs'⟩ := hy w8 (Up.refl _)
  have hs : Sl 0 w8 vi [97, 98] := hs
  have hs' : Sl 0 w8 vj [99] := hs'
  have hstr := sl_string hs
  have hstr' := sl_string hs'
  subst hv2
  obtain ⟨⟨rfl, rfl⟩, rfl⟩ : (b = b' ∧ o = o') ∧ cap = cap' := by simpa using hv3
  obtain ⟨ai, ci, e3⟩ := hs.slice
  have e3 : vi = .slice ai 2 ci := e3
  subst e3
  obtain ⟨aj, cj, e4⟩ := hs'.slice
  have e4 : vj = .slice aj 1 cj := e4
  subst e4
  rw [Nat.add_zero] at hc
  have q1 : Calls Tryz.prog 17 #[.pointer (some ⟨sb8, 0, none⟩)] w8 fun e w' => e = .returned (.int .u64 9) ∧ w' = w8 := Next_any sb8 db (nameB 7) _ _ _ _ w8 b8
  have q2 : Calls Tryz.prog 26 #[.pointer (some ⟨sb8, 0, none⟩)] w8 fun e w' => e = .returned (.int .i64 1) ∧ w' = w8 := Blocks_any sb8 db (nameB 7) _ _ _ _ w8 b8
  have q3 := Name_any 255 w8 (by omega) (HK.out.up U8).tz
  rw [name255] at q3
  have H8 : Hid (Up w w8) := U8
  clear r8 b8 hx hy hs hs' hv3 U7 u8 U8
  go_wp2_with fail
  refine q1.mono ?_
  rintro e w9 ⟨rfl, hw9⟩
  obtain rfl : w8 = w9 := hw9.symm
  clear q1
  go_wp2_with fail
  refine q2.mono ?_
  rintro e w10 ⟨rfl, hw10⟩
  obtain rfl : w8 = w10 := hw10.symm
  clear q2
  go_wp2_with fail
  refine q3.mono ?_
  rintro e w11 ⟨rfl, u11⟩
  clear q3
  go_wp2
  go_ret
  exact ⟨rfl, H8.out.trans u11⟩
end Go.Proofs.YtkfjkfpodkbkaaaGreatDoor
