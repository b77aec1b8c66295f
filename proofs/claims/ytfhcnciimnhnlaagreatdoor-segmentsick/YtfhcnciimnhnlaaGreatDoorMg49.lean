/- Merged: SgSick. -/
import Derived.Test.YtfhcnciimnhnlaaGreatDoorMg48
set_option linter.unusedVariables false
set_option linter.unusedSimpArgs false
namespace Go.Proofs.YtfhcnciimnhnlaaGreatDoor
open Go Go.RowKit

set_option maxRecDepth 20000 in
set_option maxHeartbeats 3200000 in
theorem SegmentSick_any (x : Nat) (v : Value) (gs : List Grp) (part : Int) (w : World) (ad : Nat → Addr) (hk : Ks w ad) (hx : x < 18446744073709551616) (hv : Grw w v gs) (hl : gs.length ≤ 140737488355328) (hsz : ∀ g ∈ gs, g.1.length ≤ 140737488355328 ∧ ∀ r ∈ g.1, r.length ≤ 140737488355328) (hp : -9223372036854775808 ≤ part ∧ part ≤ 9223372036854775807) :
    Calls Tryz.prog 7 #[.int .u64 (x : Int), v, .int .i64 part] w fun e w' => e = .returned (.bool true) ∧ Up w w' := by
  have haw := sawake_any w ad hk
  have HV : Hid (Ks w ad ∧ Grw w v gs ∧ gs.length ≤ 140737488355328 ∧ (∀ g ∈ gs, g.1.length ≤ 140737488355328 ∧ ∀ r ∈ g.1, r.length ≤ 140737488355328) ∧ (-9223372036854775808 ≤ part ∧ part ≤ 9223372036854775807) ∧ x < 18446744073709551616) := ⟨hk, hv, hl, hsz, hp, hx⟩
  obtain ⟨ao, cap, rfl⟩ := hv.slice
  obtain ⟨N, hN⟩ : ∃ N, gs.length = N := ⟨_, rfl⟩
  have hN0 : (0 : Int) ≤ (N : Int) := by omega
  have hNl : (N : Int) ≤ 140737488355328 := by omega
  have HN : Hid (gs.length = N) := hN
  rw [hN] at HV ⊢
  clear hk hx hv hl hsz hp hN
  go_enter Tryz.func7, Tryz.ntmps7
  go_wp2_with fail
  refine haw.mono ?_
  rintro e w1 ⟨rfl, u1⟩
  clear haw
  have hhv := heavy_any (.slice ao N cap) gs w1 (HV.out.2.1.up u1) (by rw [HN.out]; exact HV.out.2.2.1) HV.out.2.2.2.1
  go_wp2_with fail
  refine hhv.mono ?_
  rintro e w2 ⟨⟨r, rfl, hr⟩, hw2⟩
  obtain rfl : w1 = w2 := hw2.symm
  clear hhv
  cases r with
  | true =>
    go_wp2
    go_ret
    exact ⟨rfl, u1⟩
  | false =>
    have HF : Hid (∀ g ∈ gs, g.1.length ≤ 4194304) := hr rfl
    clear hr
    by_cases hN1 : N = 0
    · subst hN1
      go_wp2
      go_ret
      exact ⟨rfl, u1⟩
    · have e0 : ((N : Int) == 0) = false := by simp; omega
      by_cases hx1 : x < 1
      · go_wp2
        go_ret
        exact ⟨rfl, u1⟩
      · by_cases hx2 : 2305843009213693952 < x
        · have e1 : ¬ x < 1 := hx1
          have e2 : (2305843009213693952 : Int) < (x : Int) := by omega
          clear hx2
          go_wp2
          go_ret
          exact ⟨rfl, u1⟩
        · have HX : Hid (1 ≤ x ∧ x ≤ 2305843009213693952) := ⟨by omega, by omega⟩
          have e2 : decide ((2305843009213693952 : Int) < (x : Int)) = false := by simp; omega
          have e3 : decide ((x : Int) < 1) = false := by simp; omega
          have hnew := New_any w1
          clear hx2 hN1 hx1
          go_wp2_with fail
          refine hnew.mono ?_
          rintro e w3 ⟨db, L3, rfl, d3, u3⟩
          clear hnew
          have HK : Hid (Ks w1 ad ∧ Up w w1) := ⟨HV.out.1.up u1, u1⟩
          have hcr := SegCreate_new w1 db L3 x w3 ad HK.out.1 u3 d3 HX.out.1 (by have := HX.out.2; omega)
          clear d3 u3 u1
          go_wp2_with fail
          refine hcr.mono ?_
          rintro e w4 ⟨sb, L4, rfl, b4, d4, n4, g4, u4⟩
          clear hcr
          have H4 : Hid (Sk w1 w4 db sb x) := ⟨0, fun _ => none, L4, by omega, b4, d4, n4, g4, u4⟩
          clear b4 d4 n4 g4 u4
          go_wp2_with fail
          go_loopg [10] N (fun g p wr => ∃ i : Nat, g = N - i ∧ p = .int .i64 (i : Int) ∧ Hid (i ≤ N ∧ Sk w1 wr db sb x))
          case atStart => exact ⟨0, rfl, rfl, Nat.zero_le _, H4.out⟩
          case round =>
            clear H4
            obtain ⟨i, rfl, rfl, HR⟩ := hrel
            by_cases hi : i < N
            · have hi1 : (i : Int) < (N : Int) := by omega
              have hi0 : (0 : Int) ≤ (i : Int) := by omega
              have HI : Hid (i < N) := hi
              obtain ⟨a, p, L, ha, hsg⟩ := HR.out.2
              have q1 := Next_any sb db (nameB x) x 0 true false wr hsg.box
              have q2 := Blocks_any sb db (nameB x) x 0 true false wr hsg.box
              have HS : Hid (SgAt w1 wr db sb (nameB x) x 0 true false (sgD (nameB x) (Fil.made ⟨[], []⟩) 2 a p 0 3) L) := hsg
              clear hi hsg ha
              go_wp2_with fail
              refine q1.mono ?_
              rintro e w5 ⟨rfl, hw5⟩
              obtain rfl : wr = w5 := hw5.symm
              clear q1
              go_wp2_with fail
              refine q2.mono ?_
              rintro e w5 ⟨rfl, hw5⟩
              obtain rfl : wr = w5 := hw5.symm
              clear q2
              obtain ⟨WA, hWA⟩ : ∃ WA, wr.alloc (.cells #[.int .i64 1, .int .i64 part] 86) = WA := ⟨_, rfl⟩
              have uA : Up wr WA := by rw [← hWA]; exact Up.alloc _ _
              have bA : Box WA wr.heap.size #[.int .i64 1, .int .i64 part] := by rw [← hWA]; exact Box.new _ _ _
              have harm := Arm_one w1.heap.size db _ L wr.heap.size part WA (HS.out.next uA).dsk rfl (fun hm => by have := HS.out.dsk.lt _ hm; omega) (bA.cell 0) (bA.cell 1) HV.out.2.2.2.2.1 (HS.out.next uA).up.size
              have HA : Hid (SgAt w1 WA db sb (nameB x) x 0 true false (sgD (nameB x) (Fil.made ⟨[], []⟩) 2 a p 0 3) L) := HS.out.next uA
              clear uA bA HS
              go_wp2_with fail
              refine harm.mono ?_
              rintro e w6 ⟨rfl, hd6⟩
              clear harm
              obtain ⟨L6, h6⟩ := HA.out.armed hd6
              have HS6 : Hid (SgAt w1 w6 db sb (nameB x) x 0 true false (sgD (nameB x) (Fil.made ⟨[], []⟩) 2 2 (onePart part) 0 3) L6) := h6
              have U6 : Up w w6 := HK.out.2.trans h6.up
              have hi2 : i < gs.length := by have := HN.out; have := HI.out; omega
              obtain ⟨b, o, cap', vi, e, hc, hrw, hc2⟩ := (HV.out.2.1.up U6).at i hi2
              obtain ⟨rfl, rfl⟩ : ao = some ⟨b, o, none⟩ ∧ cap = cap' := by simp only [Value.slice.injEq] at e; exact ⟨e.1, e.2.2⟩
              obtain ⟨Rs, hRs⟩ : ∃ Rs, (gs[i]'hi2).1 = Rs := ⟨_, rfl⟩
              obtain ⟨sy, hsy⟩ : ∃ sy, (gs[i]'hi2).2 = sy := ⟨_, rfl⟩
              have HRs : Hid (Rs.length ≤ 4194304) := by rw [← hRs]; exact HF.out _ (List.getElem_mem hi2)
              rw [hRs] at hrw
              rw [hsy] at hc2
              have HLN : Hid ((nameB x).length = 20) := nameB_length x (by have := HX.out.2; omega)
              have HRW : Hid (Rw w6 vi Rs) := hrw
              obtain ⟨ai, ci, rfl⟩ : ∃ ai ci, vi = .slice ai Rs.length ci := by obtain ⟨q1, q2, q3, _⟩ := hrw; exact ⟨q1, q2, q3⟩
              clear hd6 h6 U6 hRs hsy e hrw HA hWA
              cases sy with
              | true =>
                have hsn := SegSync_fails w1 w6 db sb (nameB x) x 0 true (Fil.made ⟨[], []⟩) 2 2 (onePart part) 0 3 L6 ad part HS6.out HK.out.1 (sick_fate _ _ _ _) made_empty (by omega) (by omega) (by omega) (by omega) (by simp [Fil.made]) (by have := HLN.out; omega)
                go_wp2_with fail
                refine hsn.mono ?_
                rintro e w7 ⟨L7, rfl, h7, -, -⟩
                clear hsn hc hc2
                have HS7 := (show Hid _ from h7)
                have E7 := HK.out.1.up h7.up
                have g0 := (E7.er _ segIo).1.cell
                have g3 := (E7.er _ segLong).1.cell
                have q3 := eq_other (E7.er _ segIo).2 (E7.er _ segLong).2 (seg_ne segIo segLong (by decide))
                have hop := Ops_any w1.heap.size db _ L7 w7 h7.dsk
                clear h7
                go_wp2_with fail
                refine hop.mono ?_
                rintro e w8 ⟨rfl, hw8⟩
                obtain rfl : w7 = w8 := hw8.symm
                clear hop
                go_wp2_with fail
                clear g0 g3 q3
                have HE : Hid (∀ u, Up w7 u → u.cell? ⟨0, 0, none⟩ = some (E (ad 0)) ∧ u.cell? ⟨4, 0, none⟩ = some (E (ad 4))) := fun u uu => ⟨((E7.up uu).er _ segIo).1.cell, ((E7.up uu).er _ segSick).1.cell⟩
                clear E7
                have hs : Up w7 w7.drew := Up.drew w7
                refine wp_region_held_drew (S := fun u => Up w7 u) (by kernel_rfl) hs (fun hs0 => ?_)
                obtain ⟨wd, hwd⟩ : ∃ wd, w7.drew = wd := ⟨_, rfl⟩
                rw [hwd] at hs hs0 ⊢
                clear hwd
                have kc := Lib.run_convert_bytes_const (P := Tryz.prog) wd 43 5 #[.int .u8 120] 1 1 Tryz.underlying43 Tryz.underlying5
                refine take_to (some 90) (i := 0) (v := E (ad 0)) rfl rfl (by kernel_rfl) (by kernel_rfl) (by kernel_rfl) (fun _ _ _ h => h) (Or.inl ⟨by kernel_rfl, by intro u hSu; go_simp⟩) hs ?_
                simp only [Act.put, List.setIfInBounds_toArray, List.set_cons_zero, List.set_cons_succ]
                refine take_to (some 91) (i := 1) (v := E (ad 0)) rfl rfl (by kernel_rfl) (by kernel_rfl) (by kernel_rfl) (fun _ _ _ h => h) (Or.inl ⟨by kernel_rfl, by intro u hSu; have q0 := (HE.out u hSu).1; go_simp⟩) hs ?_
                simp only [Act.put, List.setIfInBounds_toArray, List.set_cons_zero, List.set_cons_succ]
                refine take_to (some 92) (i := 2) (v := .bool false) rfl rfl (by kernel_rfl) (by kernel_rfl) (by kernel_rfl) (fun _ _ _ h => h) (Or.inl ⟨by kernel_rfl, by intro u hSu; have q0 := neq_same (ad 0) u; go_simp⟩) hs ?_
                simp only [Act.put, List.setIfInBounds_toArray, List.set_cons_zero, List.set_cons_succ]
                refine take_to (some 93) (i := 3) (v := .bool false) rfl rfl (by kernel_rfl) (by kernel_rfl) (by kernel_rfl) (fun _ _ _ h => h) (Or.inl ⟨by kernel_rfl, by intro u hSu; go_simp⟩) hs ?_
                simp only [Act.put, List.setIfInBounds_toArray, List.set_cons_zero, List.set_cons_succ]
                refine take_to (some 94) (i := 4) (v := .pointer (some ⟨sb, 0, none⟩)) rfl rfl (by kernel_rfl) (by kernel_rfl) (by kernel_rfl) (fun _ _ _ h => h) (Or.inl ⟨by kernel_rfl, by intro u hSu; go_simp⟩) hs ?_
                simp only [Act.put, List.setIfInBounds_toArray, List.set_cons_zero, List.set_cons_succ]
                refine take_to (some 99) (i := 9) (v := E (ad 4)) rfl rfl (by kernel_rfl) (by kernel_rfl) (by kernel_rfl) (fun _ _ _ h => h) (Or.inl ⟨by kernel_rfl, by intro u hSu; have q0 := (HE.out u hSu).2; go_simp⟩) hs ?_
                simp only [Act.put, List.setIfInBounds_toArray, List.set_cons_zero, List.set_cons_succ]
                refine wpAnyH_ready (rs := [5]) (by kernel_rfl) (by simp) ?_
                refine AllReadyH.cons rfl (fun K hK => ?_) AllReadyH.nil
                go_simp
                refine hK.out _ _ (hs.trans (Up.alloc _ _)) (fun _ => ?_)
                clear hK K
                refine wpAnyH_ready (rs := [6]) (by kernel_rfl) (by simp) ?_
                refine AllReadyH.cons rfl (fun K hK => ?_) AllReadyH.nil
                go_simp
                clear kc
                obtain ⟨we, hwe⟩ : ∃ we, wd.alloc (.cells #[.int .u8 120] 5 (1, 2)) = we := ⟨_, rfl⟩
                have ue : Up w7 we := hs.trans (by rw [← hwe]; exact Up.alloc _ _)
                rw [hwe]
                clear hwe
                refine hK.out _ _ ue (fun _ => ?_)
                clear hK K
                refine wpAnyH_ready (rs := [7]) (by kernel_rfl) (by simp) ?_
                refine AllReadyH.cons rfl (fun K hK => ?_) AllReadyH.nil
                go_simp
                refine hK.out _ _ (ue.trans (Up.alloc _ _)) (fun _ => ?_)
                clear hK K
                obtain ⟨wf, hwf⟩ : ∃ wf, we.alloc (.cells #[.slice (some ⟨wd.heap.size, 0, none⟩) 1 1] 43) = wf := ⟨_, rfl⟩
                have uf : Up w7 wf := ue.trans (by rw [← hwf]; exact Up.alloc _ _)
                rw [hwf]
                clear hwf
                refine wpAnyH_ready (rs := [8]) (by kernel_rfl) (by simp) ?_
                refine AllReadyH.cons rfl (fun K hK => ?_) AllReadyH.nil
                go_simp
                refine (SegAppend_sick w1 wf db sb (nameB x) x 0 _ L7 _ 1 1 (ad 4) (HS7.out.next uf) (HE.out wf uf).2).mono ?_
                rintro e w9 ⟨rfl, hw9⟩
                obtain rfl : wf = w9 := hw9.symm
                refine hK.out _ _ uf (fun _ => ?_)
                clear hK K
                refine take_to (some 100) (i := 10) (v := .bool false) rfl rfl (by kernel_rfl) (by kernel_rfl) (by kernel_rfl) (fun _ _ _ h => h) (Or.inl ⟨by kernel_rfl, by intro u hSu; have q0 := neq_same (ad 4) u; go_simp⟩) uf ?_
                simp only [Act.put, List.setIfInBounds_toArray, List.set_cons_zero, List.set_cons_succ]
                refine take_to (some 101) (i := 11) (v := .bool false) rfl rfl (by kernel_rfl) (by kernel_rfl) (by kernel_rfl) (fun _ _ _ h => h) (Or.inl ⟨by kernel_rfl, by intro u hSu; go_simp⟩) uf ?_
                simp only [Act.put, List.setIfInBounds_toArray, List.set_cons_zero, List.set_cons_succ]
                refine take_to (some 102) (i := 12) (v := .bool false) rfl rfl (by kernel_rfl) (by kernel_rfl) (by kernel_rfl) (fun _ _ _ h => h) (Or.inl ⟨by kernel_rfl, by intro u hSu; go_simp⟩) uf ?_
                simp only [Act.put, List.setIfInBounds_toArray, List.set_cons_zero, List.set_cons_succ]
                refine take_to (some 103) (i := 13) (v := .pointer (some ⟨sb, 0, none⟩)) rfl rfl (by kernel_rfl) (by kernel_rfl) (by kernel_rfl) (fun _ _ _ h => h) (Or.inl ⟨by kernel_rfl, by intro u hSu; go_simp⟩) uf ?_
                simp only [Act.put, List.setIfInBounds_toArray, List.set_cons_zero, List.set_cons_succ]
                refine take_to (some 105) (i := 15) (v := E (ad 4)) rfl rfl (by kernel_rfl) (by kernel_rfl) (by kernel_rfl) (fun _ _ _ h => h) (Or.inl ⟨by kernel_rfl, by intro u hSu; have q0 := (HE.out u hSu).2; go_simp⟩) uf ?_
                simp only [Act.put, List.setIfInBounds_toArray, List.set_cons_zero, List.set_cons_succ]
                refine wpAnyH_ready (rs := [14]) (by kernel_rfl) (by simp) ?_
                refine AllReadyH.cons rfl (fun K hK => ?_) AllReadyH.nil
                go_simp
                refine (SegAppend_sick w1 wf db sb (nameB x) x 0 _ L7 none 0 0 (ad 4) (HS7.out.next uf) (HE.out wf uf).2).mono ?_
                rintro e w9 ⟨rfl, hw9⟩
                obtain rfl : wf = w9 := hw9.symm
                refine hK.out _ _ uf (fun _ => ?_)
                clear hK K
                refine take_to (some 106) (i := 16) (v := .bool false) rfl rfl (by kernel_rfl) (by kernel_rfl) (by kernel_rfl) (fun _ _ _ h => h) (Or.inl ⟨by kernel_rfl, by intro u hSu; have q0 := neq_same (ad 4) u; go_simp⟩) uf ?_
                simp only [Act.put, List.setIfInBounds_toArray, List.set_cons_zero, List.set_cons_succ]
                refine take_to (some 107) (i := 17) (v := .bool false) rfl rfl (by kernel_rfl) (by kernel_rfl) (by kernel_rfl) (fun _ _ _ h => h) (Or.inl ⟨by kernel_rfl, by intro u hSu; go_simp⟩) uf ?_
                simp only [Act.put, List.setIfInBounds_toArray, List.set_cons_zero, List.set_cons_succ]
                refine take_to (some 108) (i := 18) (v := .bool false) rfl rfl (by kernel_rfl) (by kernel_rfl) (by kernel_rfl) (fun _ _ _ h => h) (Or.inl ⟨by kernel_rfl, by intro u hSu; go_simp⟩) uf ?_
                simp only [Act.put, List.setIfInBounds_toArray, List.set_cons_zero, List.set_cons_succ]
                refine take_to (some 109) (i := 19) (v := .pointer (some ⟨sb, 0, none⟩)) rfl rfl (by kernel_rfl) (by kernel_rfl) (by kernel_rfl) (fun _ _ _ h => h) (Or.inl ⟨by kernel_rfl, by intro u hSu; go_simp⟩) uf ?_
                simp only [Act.put, List.setIfInBounds_toArray, List.set_cons_zero, List.set_cons_succ]
                refine take_to (some 111) (i := 21) (v := E (ad 4)) rfl rfl (by kernel_rfl) (by kernel_rfl) (by kernel_rfl) (fun _ _ _ h => h) (Or.inl ⟨by kernel_rfl, by intro u hSu; have q0 := (HE.out u hSu).2; go_simp⟩) uf ?_
                simp only [Act.put, List.setIfInBounds_toArray, List.set_cons_zero, List.set_cons_succ]
                refine wpAnyH_ready (rs := [20]) (by kernel_rfl) (by simp) ?_
                refine AllReadyH.cons rfl (fun K hK => ?_) AllReadyH.nil
                go_simp
                refine (SegSync_sick w1 wf db sb (nameB x) x 0 true _ L7 (ad 4) (HS7.out.next uf) (HE.out wf uf).2).mono ?_
                rintro e w9 ⟨rfl, hw9⟩
                obtain rfl : wf = w9 := hw9.symm
                refine hK.out _ _ uf (fun _ => ?_)
                clear hK K
                refine take_to (some 112) (i := 22) (v := .bool false) rfl rfl (by kernel_rfl) (by kernel_rfl) (by kernel_rfl) (fun _ _ _ h => h) (Or.inl ⟨by kernel_rfl, by intro u hSu; have q0 := neq_same (ad 4) u; go_simp⟩) uf ?_
                simp only [Act.put, List.setIfInBounds_toArray, List.set_cons_zero, List.set_cons_succ]
                refine take_to (some 113) (i := 23) (v := .bool false) rfl rfl (by kernel_rfl) (by kernel_rfl) (by kernel_rfl) (fun _ _ _ h => h) (Or.inl ⟨by kernel_rfl, by intro u hSu; go_simp⟩) uf ?_
                simp only [Act.put, List.setIfInBounds_toArray, List.set_cons_zero, List.set_cons_succ]
                refine take_to (some 114) (i := 24) (v := .bool false) rfl rfl (by kernel_rfl) (by kernel_rfl) (by kernel_rfl) (fun _ _ _ h => h) (Or.inl ⟨by kernel_rfl, by intro u hSu; go_simp⟩) uf ?_
                simp only [Act.put, List.setIfInBounds_toArray, List.set_cons_zero, List.set_cons_succ]
                refine take_to (some 115) (i := 25) (v := .pointer (some ⟨sb, 0, none⟩)) rfl rfl (by kernel_rfl) (by kernel_rfl) (by kernel_rfl) (fun _ _ _ h => h) (Or.inl ⟨by kernel_rfl, by intro u hSu; go_simp⟩) uf ?_
                simp only [Act.put, List.setIfInBounds_toArray, List.set_cons_zero, List.set_cons_succ]
                refine take_to (some 117) (i := 27) (v := E (ad 4)) rfl rfl (by kernel_rfl) (by kernel_rfl) (by kernel_rfl) (fun _ _ _ h => h) (Or.inl ⟨by kernel_rfl, by intro u hSu; have q0 := (HE.out u hSu).2; go_simp⟩) uf ?_
                simp only [Act.put, List.setIfInBounds_toArray, List.set_cons_zero, List.set_cons_succ]
                refine wpAnyH_ready (rs := [26]) (by kernel_rfl) (by simp) ?_
                refine AllReadyH.cons rfl (fun K hK => ?_) AllReadyH.nil
                go_simp
                refine (SegCut_sick w1 wf db sb (nameB x) x 0 true _ L7 (ad 4) (HS7.out.next uf) (HE.out wf uf).2).mono ?_
                rintro e w9 ⟨rfl, hw9⟩
                obtain rfl : wf = w9 := hw9.symm
                refine hK.out _ _ uf (fun _ => ?_)
                clear hK K
                refine take_to (some 118) (i := 28) (v := .bool false) rfl rfl (by kernel_rfl) (by kernel_rfl) (by kernel_rfl) (fun _ _ _ h => h) (Or.inl ⟨by kernel_rfl, by intro u hSu; have q0 := neq_same (ad 4) u; go_simp⟩) uf ?_
                simp only [Act.put, List.setIfInBounds_toArray, List.set_cons_zero, List.set_cons_succ]
                refine take_to (some 119) (i := 29) (v := .bool false) rfl rfl (by kernel_rfl) (by kernel_rfl) (by kernel_rfl) (fun _ _ _ h => h) (Or.inl ⟨by kernel_rfl, by intro u hSu; go_simp⟩) uf ?_
                simp only [Act.put, List.setIfInBounds_toArray, List.set_cons_zero, List.set_cons_succ]
                refine wpAnyH_done (by kernel_rfl) ?_ _
                have h7 := HS7.out.next uf
                have HU : Hid (Up w wf) := HK.out.2.trans h7.up
                have hop := Ops_any w1.heap.size db _ L7 wf h7.dsk
                have q1 := Next_any sb db (nameB x) x 0 true true wf h7.box
                have q2 := Blocks_any sb db (nameB x) x 0 true true wf h7.box
                clear h7 hs hs0 ue uf
                go_wp2_with fail
                refine hop.mono ?_
                rintro e w10 ⟨rfl, hw10⟩
                obtain rfl : wf = w10 := hw10.symm
                clear hop
                go_wp2_with fail
                refine q1.mono ?_
                rintro e w11 ⟨rfl, hw11⟩
                obtain rfl : wf = w11 := hw11.symm
                clear q1
                go_wp2_with fail
                refine q2.mono ?_
                rintro e w12 ⟨rfl, hw12⟩
                obtain rfl : wf = w12 := hw12.symm
                clear q2
                go_wp2
                go_ret
                exact ⟨rfl, HU.out⟩
              | false =>
                by_cases hne : Rs = []
                · subst hne
                  have hno := SegAppend_none w1 w6 db sb (nameB x) x 0 _ L6 _ HS6.out HRW.out
                  go_wp2_with fail
                  refine hno.mono ?_
                  rintro e w7 ⟨rfl, hw7⟩
                  obtain rfl : w6 = w7 := hw7.symm
                  clear hno
                  go_wp2
                  go_roundg (N - (i + 1))
                  case measure => have := HI.out; omega
                  case rel => exact ⟨i + 1, rfl, by go_num, by have := HI.out; omega, 2, onePart part, L6, by omega, HS6.out⟩
                · have hnum : NumOk x Rs.length := by
                    have := HX.out
                    have := HRs.out
                    have := List.length_pos_iff.2 hne
                    simp only [NumOk]
                    omega
                  have hx64 : x < 4611686018427387905 := by have := HX.out.2; omega
                  have hlen : (0 : Int) < (Rs.length : Int) := by have := List.length_pos_iff.2 hne; omega
                  cases hlg : anyLong Rs with
                  | true =>
                    have hbad := SegAppend_bad w1 w6 db sb (nameB x) x 0 _ L6 _ Rs ad (ad 3) HS6.out HK.out.1 HRW.out hne (by have := HRs.out; omega) (by omega) (anyLong_pk hne hnum hlg)
                    clear hnum hx64 hne hlg
                    go_wp2_with fail
                    refine hbad.mono ?_
                    rintro e w7 ⟨rfl, u7⟩
                    clear hbad hc hc2
                    have g7 := ((HK.out.1.up (HS6.out.up.trans u7)).er _ segLong).1.cell
                    have q7 := eq_same (ad 3) w7
                    go_wp2
                    go_roundg (N - (i + 1))
                    case measure => have := HI.out; omega
                    case rel => exact ⟨i + 1, rfl, by go_num, by have := HI.out; omega, 2, onePart part, L6, by omega, HS6.out.next u7⟩
                  | false =>
                    have h200 := anyLong_false hlg
                    have hpl := packB_le x Rs h200 HX.out.1 (by have := HX.out.2; have := HRs.out; omega)
                    have hsn := SegAppend_fails w1 w6 db sb (nameB x) x 0 (Fil.made ⟨[], []⟩) 2 2 (onePart part) 0 3 L6 _ Rs ad part HS6.out HK.out.1 HRW.out hne (by have := HRs.out; omega) hx64 hnum hlg (sick_fate _ _ _ _) made_empty (by omega) (by omega) (by omega) (by omega) (by have := HRs.out; simp [Fil.made]; omega) (by omega) (by have := HLN.out; omega) (fun k q hq => by
                      unfold onePart at hq
                      split at hq
                      · cases hq; exact HV.out.2.2.2.2.1
                      · cases hq)
                    clear hnum hx64 hne hlg h200 hpl
                    go_wp2_with fail
                    refine hsn.mono ?_
                    rintro e w7 ⟨L7, rfl, h7, -, -⟩
                    clear hsn hc hc2
                    have HS7 := (show Hid _ from h7)
                    have E7 := HK.out.1.up h7.up
                    have g0 := (E7.er _ segIo).1.cell
                    have g3 := (E7.er _ segLong).1.cell
                    have q3 := eq_other (E7.er _ segIo).2 (E7.er _ segLong).2 (seg_ne segIo segLong (by decide))
                    have hop := Ops_any w1.heap.size db _ L7 w7 h7.dsk
                    clear h7
                    go_wp2_with fail
                    refine hop.mono ?_
                    rintro e w8 ⟨rfl, hw8⟩
                    obtain rfl : w7 = w8 := hw8.symm
                    clear hop
                    go_wp2_with fail
                    clear g0 g3 q3
                    have HE : Hid (∀ u, Up w7 u → u.cell? ⟨0, 0, none⟩ = some (E (ad 0)) ∧ u.cell? ⟨4, 0, none⟩ = some (E (ad 4))) := fun u uu => ⟨((E7.up uu).er _ segIo).1.cell, ((E7.up uu).er _ segSick).1.cell⟩
                    clear E7
                    have hs : Up w7 w7.drew := Up.drew w7
                    refine wp_region_held_drew (S := fun u => Up w7 u) (by kernel_rfl) hs (fun hs0 => ?_)
                    obtain ⟨wd, hwd⟩ : ∃ wd, w7.drew = wd := ⟨_, rfl⟩
                    rw [hwd] at hs hs0 ⊢
                    clear hwd
                    have kc := Lib.run_convert_bytes_const (P := Tryz.prog) wd 43 5 #[.int .u8 120] 1 1 Tryz.underlying43 Tryz.underlying5
                    refine take_to (some 90) (i := 0) (v := E (ad 0)) rfl rfl (by kernel_rfl) (by kernel_rfl) (by kernel_rfl) (fun _ _ _ h => h) (Or.inl ⟨by kernel_rfl, by intro u hSu; go_simp⟩) hs ?_
                    simp only [Act.put, List.setIfInBounds_toArray, List.set_cons_zero, List.set_cons_succ]
                    refine take_to (some 91) (i := 1) (v := E (ad 0)) rfl rfl (by kernel_rfl) (by kernel_rfl) (by kernel_rfl) (fun _ _ _ h => h) (Or.inl ⟨by kernel_rfl, by intro u hSu; have q0 := (HE.out u hSu).1; go_simp⟩) hs ?_
                    simp only [Act.put, List.setIfInBounds_toArray, List.set_cons_zero, List.set_cons_succ]
                    refine take_to (some 92) (i := 2) (v := .bool false) rfl rfl (by kernel_rfl) (by kernel_rfl) (by kernel_rfl) (fun _ _ _ h => h) (Or.inl ⟨by kernel_rfl, by intro u hSu; have q0 := neq_same (ad 0) u; go_simp⟩) hs ?_
                    simp only [Act.put, List.setIfInBounds_toArray, List.set_cons_zero, List.set_cons_succ]
                    refine take_to (some 93) (i := 3) (v := .bool false) rfl rfl (by kernel_rfl) (by kernel_rfl) (by kernel_rfl) (fun _ _ _ h => h) (Or.inl ⟨by kernel_rfl, by intro u hSu; go_simp⟩) hs ?_
                    simp only [Act.put, List.setIfInBounds_toArray, List.set_cons_zero, List.set_cons_succ]
                    refine take_to (some 94) (i := 4) (v := .pointer (some ⟨sb, 0, none⟩)) rfl rfl (by kernel_rfl) (by kernel_rfl) (by kernel_rfl) (fun _ _ _ h => h) (Or.inl ⟨by kernel_rfl, by intro u hSu; go_simp⟩) hs ?_
                    simp only [Act.put, List.setIfInBounds_toArray, List.set_cons_zero, List.set_cons_succ]
                    refine take_to (some 99) (i := 9) (v := E (ad 4)) rfl rfl (by kernel_rfl) (by kernel_rfl) (by kernel_rfl) (fun _ _ _ h => h) (Or.inl ⟨by kernel_rfl, by intro u hSu; have q0 := (HE.out u hSu).2; go_simp⟩) hs ?_
                    simp only [Act.put, List.setIfInBounds_toArray, List.set_cons_zero, List.set_cons_succ]
                    refine wpAnyH_ready (rs := [5]) (by kernel_rfl) (by simp) ?_
                    refine AllReadyH.cons rfl (fun K hK => ?_) AllReadyH.nil
                    go_simp
                    refine hK.out _ _ (hs.trans (Up.alloc _ _)) (fun _ => ?_)
                    clear hK K
                    refine wpAnyH_ready (rs := [6]) (by kernel_rfl) (by simp) ?_
                    refine AllReadyH.cons rfl (fun K hK => ?_) AllReadyH.nil
                    go_simp
                    clear kc
                    obtain ⟨we, hwe⟩ : ∃ we, wd.alloc (.cells #[.int .u8 120] 5 (1, 2)) = we := ⟨_, rfl⟩
                    have ue : Up w7 we := hs.trans (by rw [← hwe]; exact Up.alloc _ _)
                    rw [hwe]
                    clear hwe
                    refine hK.out _ _ ue (fun _ => ?_)
                    clear hK K
                    refine wpAnyH_ready (rs := [7]) (by kernel_rfl) (by simp) ?_
                    refine AllReadyH.cons rfl (fun K hK => ?_) AllReadyH.nil
                    go_simp
                    refine hK.out _ _ (ue.trans (Up.alloc _ _)) (fun _ => ?_)
                    clear hK K
                    obtain ⟨wf, hwf⟩ : ∃ wf, we.alloc (.cells #[.slice (some ⟨wd.heap.size, 0, none⟩) 1 1] 43) = wf := ⟨_, rfl⟩
                    have uf : Up w7 wf := ue.trans (by rw [← hwf]; exact Up.alloc _ _)
                    rw [hwf]
                    clear hwf
                    refine wpAnyH_ready (rs := [8]) (by kernel_rfl) (by simp) ?_
                    refine AllReadyH.cons rfl (fun K hK => ?_) AllReadyH.nil
                    go_simp
                    refine (SegAppend_sick w1 wf db sb (nameB x) x 0 _ L7 _ 1 1 (ad 4) (HS7.out.next uf) (HE.out wf uf).2).mono ?_
                    rintro e w9 ⟨rfl, hw9⟩
                    obtain rfl : wf = w9 := hw9.symm
                    refine hK.out _ _ uf (fun _ => ?_)
                    clear hK K
                    refine take_to (some 100) (i := 10) (v := .bool false) rfl rfl (by kernel_rfl) (by kernel_rfl) (by kernel_rfl) (fun _ _ _ h => h) (Or.inl ⟨by kernel_rfl, by intro u hSu; have q0 := neq_same (ad 4) u; go_simp⟩) uf ?_
                    simp only [Act.put, List.setIfInBounds_toArray, List.set_cons_zero, List.set_cons_succ]
                    refine take_to (some 101) (i := 11) (v := .bool false) rfl rfl (by kernel_rfl) (by kernel_rfl) (by kernel_rfl) (fun _ _ _ h => h) (Or.inl ⟨by kernel_rfl, by intro u hSu; go_simp⟩) uf ?_
                    simp only [Act.put, List.setIfInBounds_toArray, List.set_cons_zero, List.set_cons_succ]
                    refine take_to (some 102) (i := 12) (v := .bool false) rfl rfl (by kernel_rfl) (by kernel_rfl) (by kernel_rfl) (fun _ _ _ h => h) (Or.inl ⟨by kernel_rfl, by intro u hSu; go_simp⟩) uf ?_
                    simp only [Act.put, List.setIfInBounds_toArray, List.set_cons_zero, List.set_cons_succ]
                    refine take_to (some 103) (i := 13) (v := .pointer (some ⟨sb, 0, none⟩)) rfl rfl (by kernel_rfl) (by kernel_rfl) (by kernel_rfl) (fun _ _ _ h => h) (Or.inl ⟨by kernel_rfl, by intro u hSu; go_simp⟩) uf ?_
                    simp only [Act.put, List.setIfInBounds_toArray, List.set_cons_zero, List.set_cons_succ]
                    refine take_to (some 105) (i := 15) (v := E (ad 4)) rfl rfl (by kernel_rfl) (by kernel_rfl) (by kernel_rfl) (fun _ _ _ h => h) (Or.inl ⟨by kernel_rfl, by intro u hSu; have q0 := (HE.out u hSu).2; go_simp⟩) uf ?_
                    simp only [Act.put, List.setIfInBounds_toArray, List.set_cons_zero, List.set_cons_succ]
                    refine wpAnyH_ready (rs := [14]) (by kernel_rfl) (by simp) ?_
                    refine AllReadyH.cons rfl (fun K hK => ?_) AllReadyH.nil
                    go_simp
                    refine (SegAppend_sick w1 wf db sb (nameB x) x 0 _ L7 none 0 0 (ad 4) (HS7.out.next uf) (HE.out wf uf).2).mono ?_
                    rintro e w9 ⟨rfl, hw9⟩
                    obtain rfl : wf = w9 := hw9.symm
                    refine hK.out _ _ uf (fun _ => ?_)
                    clear hK K
                    refine take_to (some 106) (i := 16) (v := .bool false) rfl rfl (by kernel_rfl) (by kernel_rfl) (by kernel_rfl) (fun _ _ _ h => h) (Or.inl ⟨by kernel_rfl, by intro u hSu; have q0 := neq_same (ad 4) u; go_simp⟩) uf ?_
                    simp only [Act.put, List.setIfInBounds_toArray, List.set_cons_zero, List.set_cons_succ]
                    refine take_to (some 107) (i := 17) (v := .bool false) rfl rfl (by kernel_rfl) (by kernel_rfl) (by kernel_rfl) (fun _ _ _ h => h) (Or.inl ⟨by kernel_rfl, by intro u hSu; go_simp⟩) uf ?_
                    simp only [Act.put, List.setIfInBounds_toArray, List.set_cons_zero, List.set_cons_succ]
                    refine take_to (some 108) (i := 18) (v := .bool false) rfl rfl (by kernel_rfl) (by kernel_rfl) (by kernel_rfl) (fun _ _ _ h => h) (Or.inl ⟨by kernel_rfl, by intro u hSu; go_simp⟩) uf ?_
                    simp only [Act.put, List.setIfInBounds_toArray, List.set_cons_zero, List.set_cons_succ]
                    refine take_to (some 109) (i := 19) (v := .pointer (some ⟨sb, 0, none⟩)) rfl rfl (by kernel_rfl) (by kernel_rfl) (by kernel_rfl) (fun _ _ _ h => h) (Or.inl ⟨by kernel_rfl, by intro u hSu; go_simp⟩) uf ?_
                    simp only [Act.put, List.setIfInBounds_toArray, List.set_cons_zero, List.set_cons_succ]
                    refine take_to (some 111) (i := 21) (v := E (ad 4)) rfl rfl (by kernel_rfl) (by kernel_rfl) (by kernel_rfl) (fun _ _ _ h => h) (Or.inl ⟨by kernel_rfl, by intro u hSu; have q0 := (HE.out u hSu).2; go_simp⟩) uf ?_
                    simp only [Act.put, List.setIfInBounds_toArray, List.set_cons_zero, List.set_cons_succ]
                    refine wpAnyH_ready (rs := [20]) (by kernel_rfl) (by simp) ?_
                    refine AllReadyH.cons rfl (fun K hK => ?_) AllReadyH.nil
                    go_simp
                    refine (SegSync_sick w1 wf db sb (nameB x) x 0 true _ L7 (ad 4) (HS7.out.next uf) (HE.out wf uf).2).mono ?_
                    rintro e w9 ⟨rfl, hw9⟩
                    obtain rfl : wf = w9 := hw9.symm
                    refine hK.out _ _ uf (fun _ => ?_)
                    clear hK K
                    refine take_to (some 112) (i := 22) (v := .bool false) rfl rfl (by kernel_rfl) (by kernel_rfl) (by kernel_rfl) (fun _ _ _ h => h) (Or.inl ⟨by kernel_rfl, by intro u hSu; have q0 := neq_same (ad 4) u; go_simp⟩) uf ?_
                    simp only [Act.put, List.setIfInBounds_toArray, List.set_cons_zero, List.set_cons_succ]
                    refine take_to (some 113) (i := 23) (v := .bool false) rfl rfl (by kernel_rfl) (by kernel_rfl) (by kernel_rfl) (fun _ _ _ h => h) (Or.inl ⟨by kernel_rfl, by intro u hSu; go_simp⟩) uf ?_
                    simp only [Act.put, List.setIfInBounds_toArray, List.set_cons_zero, List.set_cons_succ]
                    refine take_to (some 114) (i := 24) (v := .bool false) rfl rfl (by kernel_rfl) (by kernel_rfl) (by kernel_rfl) (fun _ _ _ h => h) (Or.inl ⟨by kernel_rfl, by intro u hSu; go_simp⟩) uf ?_
                    simp only [Act.put, List.setIfInBounds_toArray, List.set_cons_zero, List.set_cons_succ]
                    refine take_to (some 115) (i := 25) (v := .pointer (some ⟨sb, 0, none⟩)) rfl rfl (by kernel_rfl) (by kernel_rfl) (by kernel_rfl) (fun _ _ _ h => h) (Or.inl ⟨by kernel_rfl, by intro u hSu; go_simp⟩) uf ?_
                    simp only [Act.put, List.setIfInBounds_toArray, List.set_cons_zero, List.set_cons_succ]
                    refine take_to (some 117) (i := 27) (v := E (ad 4)) rfl rfl (by kernel_rfl) (by kernel_rfl) (by kernel_rfl) (fun _ _ _ h => h) (Or.inl ⟨by kernel_rfl, by intro u hSu; have q0 := (HE.out u hSu).2; go_simp⟩) uf ?_
                    simp only [Act.put, List.setIfInBounds_toArray, List.set_cons_zero, List.set_cons_succ]
                    refine wpAnyH_ready (rs := [26]) (by kernel_rfl) (by simp) ?_
                    refine AllReadyH.cons rfl (fun K hK => ?_) AllReadyH.nil
                    go_simp
                    refine (SegCut_sick w1 wf db sb (nameB x) x 0 true _ L7 (ad 4) (HS7.out.next uf) (HE.out wf uf).2).mono ?_
                    rintro e w9 ⟨rfl, hw9⟩
                    obtain rfl : wf = w9 := hw9.symm
                    refine hK.out _ _ uf (fun _ => ?_)
                    clear hK K
                    refine take_to (some 118) (i := 28) (v := .bool false) rfl rfl (by kernel_rfl) (by kernel_rfl) (by kernel_rfl) (fun _ _ _ h => h) (Or.inl ⟨by kernel_rfl, by intro u hSu; have q0 := neq_same (ad 4) u; go_simp⟩) uf ?_
                    simp only [Act.put, List.setIfInBounds_toArray, List.set_cons_zero, List.set_cons_succ]
                    refine take_to (some 119) (i := 29) (v := .bool false) rfl rfl (by kernel_rfl) (by kernel_rfl) (by kernel_rfl) (fun _ _ _ h => h) (Or.inl ⟨by kernel_rfl, by intro u hSu; go_simp⟩) uf ?_
                    simp only [Act.put, List.setIfInBounds_toArray, List.set_cons_zero, List.set_cons_succ]
                    refine wpAnyH_done (by kernel_rfl) ?_ _
                    have h7 := HS7.out.next uf
                    have HU : Hid (Up w wf) := HK.out.2.trans h7.up
                    have hop := Ops_any w1.heap.size db _ L7 wf h7.dsk
                    have q1 := Next_any sb db (nameB x) x 0 true true wf h7.box
                    have q2 := Blocks_any sb db (nameB x) x 0 true true wf h7.box
                    clear h7 hs hs0 ue uf
                    go_wp2_with fail
                    refine hop.mono ?_
                    rintro e w10 ⟨rfl, hw10⟩
                    obtain rfl : wf = w10 := hw10.symm
                    clear hop
                    go_wp2_with fail
                    refine q1.mono ?_
                    rintro e w11 ⟨rfl, hw11⟩
                    obtain rfl : wf = w11 := hw11.symm
                    clear q1
                    go_wp2_with fail
                    refine q2.mono ?_
                    rintro e w12 ⟨rfl, hw12⟩
                    obtain rfl : wf = w12 := hw12.symm
                    clear q2
                    go_wp2
                    go_ret
                    exact ⟨rfl, HU.out⟩
            · have hi1 : ¬ (i : Int) < (N : Int) := by omega
              clear hi
              go_wp2
              go_ret
              obtain ⟨a, p, L, ha, hsg⟩ := HR.out.2
              exact ⟨rfl, HK.out.2.trans hsg.up⟩
end Go.Proofs.YtfhcnciimnhnlaaGreatDoor
