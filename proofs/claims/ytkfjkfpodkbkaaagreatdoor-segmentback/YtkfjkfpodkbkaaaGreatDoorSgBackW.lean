/- segment: SegmentBack: the walk. (Laid by genBack.py.) -/
import Derived.Test.YtkfjkfpodkbkaaaGreatDoorSgBack
set_option linter.unusedVariables false
set_option linter.unusedSimpArgs false
namespace Go.Proofs.YtkfjkfpodkbkaaaGreatDoor
open Go Go.RowKit

set_option maxRecDepth 20000 in
set_option maxHeartbeats 6400000 in
theorem SegmentBack_any (x : Nat) (v : Value) (gs : List Grp) (w : World) (ad : Nat → Addr) (hk : Ks w ad) (hx : x < 18446744073709551616) (hv : Grw w v gs) (hl : gs.length ≤ 140737488355328) (hsz : ∀ g ∈ gs, g.1.length ≤ 140737488355328 ∧ ∀ r ∈ g.1, r.length ≤ 140737488355328) :
    Calls Tryz.prog 5 #[.int .u64 (x : Int), v] w fun e w' => e = .returned (.bool true) ∧ Up w w' := by
  have haw := sawake_any w ad hk
  have HV : Hid (Ks w ad ∧ Grw w v gs ∧ gs.length ≤ 140737488355328 ∧ (∀ g ∈ gs, g.1.length ≤ 140737488355328 ∧ ∀ r ∈ g.1, r.length ≤ 140737488355328) ∧ x < 18446744073709551616) := ⟨hk, hv, hl, hsz, hx⟩
  obtain ⟨ao, cap, rfl⟩ := hv.slice
  obtain ⟨N, hN⟩ : ∃ N, gs.length = N := ⟨_, rfl⟩
  have hN0 : (0 : Int) ≤ (N : Int) := by omega
  have hNl : (N : Int) ≤ 140737488355328 := by omega
  have HN : Hid (gs.length = N) := hN
  rw [hN] at HV ⊢
  clear hk hx hv hl hsz hN
  go_enter Tryz.func5, Tryz.ntmps5
  go_wp2_with fail
  refine haw.mono ?_
  rintro e w1 ⟨rfl, u1⟩
  clear haw
  have hhv := heavy2_any (.slice ao N cap) gs w1 (HV.out.2.1.up u1) (by rw [HN.out]; exact HV.out.2.2.1) HV.out.2.2.2.1
  go_wp2_with fail
  refine hhv.mono ?_
  rintro e w2 ⟨⟨r, rfl, hr⟩, hw2⟩
  obtain rfl : w1 = w2 := hw2.symm
  clear hhv
  cases r with
  | true =>
    go_wp2
    go_ret
    exact ⟨rfl, u1⟩
  | false =>
    have HF : Hid (wtG gs ≤ 4194304) := hr rfl
    clear hr
    by_cases hx1 : x < 1
    · go_wp2
      go_ret
      exact ⟨rfl, u1⟩
    · by_cases hx2 : 4611686018427387904 < x
      · have e1 : ¬ x < 1 := hx1
        have e2 : (4611686018427387904 : Int) < (x : Int) := by omega
        clear hx2
        go_wp2
        go_ret
        exact ⟨rfl, u1⟩
      · have HX : Hid (1 ≤ x ∧ x ≤ 4611686018427387904) := ⟨by omega, by omega⟩
        have e2 : decide ((4611686018427387904 : Int) < (x : Int)) = false := by simp; omega
        have e3 : decide ((x : Int) < 1) = false := by simp; omega
        have hnew := New_any w1
        clear hx2 hx1
        go_wp2_with fail
        refine hnew.mono ?_
        rintro e w3 ⟨db, L3, rfl, d3, u3⟩
        clear hnew
        have HK : Hid (Ks w1 ad ∧ Up w w1) := ⟨HV.out.1.up u1, u1⟩
        have hcr := SegCreate_new w1 db L3 x w3 ad HK.out.1 u3 d3 HX.out.1 HX.out.2
        clear d3 u3 u1
        go_wp2_with fail
        refine hcr.mono ?_
        rintro e w4 ⟨sb, L4, rfl, b4, d4, n4, g4, u4⟩
        clear hcr
        have H4 : Hid (BackS w w1 w4 db x gs 0 sb (.slice none 0 0) 0) := ⟨[], _, 2, 3, L4, [], rfl, ⟨⟨b4, d4, n4, g4, u4⟩, made_empty, rfl, rfl, trivial, AllR.nil _ _ _, (fun k hk => by cases hk), ⟨by omega, by omega, by omega, by simp [cntB]⟩⟩⟩
        clear b4 d4 n4 g4 u4
        go_wp2_with fail
        go_loopg [10, 6, 8, 9] N (fun g p q1 q2 q3 wr => ∃ (i sb : Nat) (va : Value) (nb : Nat), g = N - i ∧ p = .int .i64 (i : Int) ∧ q1 = .pointer (some ⟨sb, 0, none⟩) ∧ va = q2 ∧ q3 = .int .i64 (nb : Int) ∧ Hid (i ≤ N ∧ BackS w w1 wr db x gs i sb va nb))
        case atStart => exact ⟨0, sb, _, 0, rfl, rfl, rfl, rfl, rfl, Nat.zero_le _, H4.out⟩
        case round =>
          clear H4
          obtain ⟨i, sb, va, nb, rfl, rfl, rfl, rfl, rfl, HR⟩ := hrel
          by_cases hi : i < N
          · have hi1 : (i : Int) < (N : Int) := by omega
            have hi0 : (0 : Int) ≤ (i : Int) := by omega
            have HI : Hid (i < N) := hi
            obtain ⟨GS, F, ops, room, L, vs, hnb, hB⟩ := HR.out.2
            have HB : Hid (BackR w w1 wr db sb x va GS (wtG (gs.take i)) i F ops room L vs ∧ nb = GS.length) := ⟨hB, hnb⟩
            clear hnb
            have U0 : Up w wr := HK.out.2.trans hB.sg.up
            have hi2 : i < gs.length := by have := HN.out; omega
            have hwt : Hid (wtG (gs.take (i + 1)) = wtG (gs.take i) + (wtR (gs[i]'hi2).1 + 1) ∧ wtG (gs.take (i + 1)) ≤ 4194304) := ⟨wtG_take gs i hi2, Nat.le_trans (wtG_le gs (i + 1)) HF.out⟩
            obtain ⟨b, o, cap', vi, e, hc, hrw, hc2⟩ := HV.out.2.1.at i hi2
            obtain ⟨rfl, rfl⟩ : ao = some ⟨b, o, none⟩ ∧ cap = cap' := by simp only [Value.slice.injEq] at e; exact ⟨e.1, e.2.2⟩
            obtain ⟨Rs, hRs⟩ : ∃ Rs, (gs[i]'hi2).1 = Rs := ⟨_, rfl⟩
            obtain ⟨sy, hsy⟩ : ∃ sy, (gs[i]'hi2).2 = sy := ⟨_, rfl⟩
            rw [hRs] at hrw hwt
            rw [hsy] at hc2
            have HRW : Hid (Rw w vi Rs) := hrw
            have HRN : Hid (8 * Rs.length ≤ 4194304 ∧ 8 * (cntB GS + Rs.length) ≤ 4194304) := by
              have h1 := (wtR_le Rs).1
              have h2 := hB.num.2.2.2
              have h3 := hwt.out
              exact ⟨by omega, by omega⟩
            have HC : Hid (∀ u, Up w u → u.cell? ⟨b, o + i * 2, none⟩ = some vi ∧ u.cell? ⟨b, o + i * 2 + 1, none⟩ = some (.bool sy)) := fun u hu => ⟨by rw [hu.cell (World.block_lt_of_cell? w _ hc)]; exact hc, by rw [hu.cell (World.block_lt_of_cell? w _ hc2)]; exact hc2⟩
            have k0 := (HC.out wr U0).1
            obtain ⟨ai, ci, rfl⟩ : ∃ ai ci, vi = .slice ai Rs.length ci := by obtain ⟨q1, q2, q3, _⟩ := hrw; exact ⟨q1, q2, q3⟩
            obtain ⟨R, hR⟩ : ∃ R, Rs.length = R := ⟨_, rfl⟩
            have HRL : Hid (Rs.length = R) := hR
            rw [hR] at HC k0
            have hR0 : (0 : Int) ≤ (R : Int) := by omega
            have hR1 : (R : Int) ≤ 1000000 := by have := HRN.out; omega
            obtain ⟨NX, hNX⟩ : ∃ NX, x + cntB GS = NX := ⟨_, rfl⟩
            have HNX : Hid (x + cntB GS = NX ∧ NX ≤ 4611686018427387905) := ⟨hNX, by rw [← hNX]; exact hB.fit.top (by have := HX.out; omega)⟩
            have hnext : ∀ u, Up wr u → Calls Tryz.prog 17 #[.pointer (some ⟨sb, 0, none⟩)] u fun e w' => e = .returned (.int .u64 (NX : Int)) ∧ w' = u := fun u hu => by rw [← hNX]; exact Next_any sb db (nameB x) (x + cntB GS) GS.length true false u (hB.sg.box.up hu)
            have hpack : ∀ u, Up wr u → Calls Tryz.prog 24 #[.int .u64 (NX : Int), .slice ai R ci] u fun e w' => ∃ v', e = .returned (.tuple #[v', pkE ad NX Rs]) ∧ Own w' 5 u.heap.size v' (pkR NX Rs) ∧ Up u w' := fun u hu => by
              have hku := HV.out.1.up (U0.trans hu)
              have := Pack_any NX (.slice ai Rs.length ci) Rs u ad hku.tb hku.gl (by have := HNX.out; omega) (HRW.out.up (U0.trans hu)) (by have := HRN.out; omega)
              rwa [HRL.out] at this
            have HPK : Hid (∀ u, Up wr u → Calls Tryz.prog 24 #[.int .u64 (NX : Int), .slice ai R ci] u fun e w' => ∃ v', e = .returned (.tuple #[v', pkE ad NX Rs]) ∧ Own w' 5 u.heap.size v' (pkR NX Rs) ∧ Up u w') := hpack
            have HNXT : Hid (∀ u, Up wr u → Calls Tryz.prog 17 #[.pointer (some ⟨sb, 0, none⟩)] u fun e w' => e = .returned (.int .u64 (NX : Int)) ∧ w' = u) := hnext
            have HCW : Hid (∀ u, Up wr u → u.cell? ⟨b, o + i * 2, none⟩ = some (.slice ai R ci)) := fun u hu => (HC.out u (U0.trans hu)).1
            clear hi e hc hrw hc2 hRs hsy hR hNX hnext hpack U0 hB hi2
            go_wp2_with fail
            have hs : Up wr wr.drew := Up.drew wr
            refine wp_region_held_drew (S := fun u => Up wr u) (by kernel_rfl) hs (fun hs0 => ?_)
            obtain ⟨wd, hwd⟩ : ∃ wd, wr.drew = wd := ⟨_, rfl⟩
            rw [hwd] at hs hs0 ⊢
            clear hwd k0
            refine take_to (some 47) (i := 0) (v := .pointer (some ⟨sb, 0, none⟩)) rfl rfl (by kernel_rfl) (by kernel_rfl) (by kernel_rfl) (fun _ _ _ h => h) (Or.inl ⟨by kernel_rfl, by intro u hSu; go_simp⟩) hs ?_
            simp only [Act.put, List.setIfInBounds_toArray, List.set_cons_zero, List.set_cons_succ]
            refine take_to (some 49) (i := 2) (v := .slice (some ⟨b, o, none⟩) N cap) rfl rfl (by kernel_rfl) (by kernel_rfl) (by kernel_rfl) (fun _ _ _ h => h) (Or.inl ⟨by kernel_rfl, by intro u hSu; go_simp⟩) hs ?_
            simp only [Act.put, List.setIfInBounds_toArray, List.set_cons_zero, List.set_cons_succ]
            refine take_to (some 50) (i := 3) (v := .int .i64 (i : Int)) rfl rfl (by kernel_rfl) (by kernel_rfl) (by kernel_rfl) (fun _ _ _ h => h) (Or.inl ⟨by kernel_rfl, by intro u hSu; go_simp⟩) hs ?_
            simp only [Act.put, List.setIfInBounds_toArray, List.set_cons_zero, List.set_cons_succ]
            refine take_to (some 51) (i := 4) (v := .pointer (some ⟨b, o + i * 2, none⟩)) rfl rfl (by kernel_rfl) (by kernel_rfl) (by kernel_rfl) (fun _ _ _ h => h) (Or.inl ⟨by kernel_rfl, by intro u hSu; go_simp⟩) hs ?_
            simp only [Act.put, List.setIfInBounds_toArray, List.set_cons_zero, List.set_cons_succ]
            refine take_to (some 52) (i := 5) (v := .pointer (some ⟨b, o + i * 2, none⟩)) rfl rfl (by kernel_rfl) (by kernel_rfl) (by kernel_rfl) (fun _ _ _ h => h) (Or.inl ⟨by kernel_rfl, by intro u hSu; go_simp⟩) hs ?_
            simp only [Act.put, List.setIfInBounds_toArray, List.set_cons_zero, List.set_cons_succ]
            refine take_to (some 53) (i := 6) (v := .slice ai R ci) rfl rfl (by kernel_rfl) (by kernel_rfl) (by kernel_rfl) (fun _ _ _ h => h) (Or.inl ⟨by kernel_rfl, by intro u hSu; have q0 := HCW.out u hSu; go_simp⟩) hs ?_
            simp only [Act.put, List.setIfInBounds_toArray, List.set_cons_zero, List.set_cons_succ]
            refine wpAnyH_ready (rs := [1]) (by kernel_rfl) (by simp) ?_
            refine AllReadyH.cons rfl (fun K hK => ?_) AllReadyH.nil
            go_simp
            refine (HNXT.out wd hs).mono ?_
            rintro e w5 ⟨rfl, hw5⟩
            obtain rfl : wd = w5 := hw5.symm
            refine hK.out _ _ hs (fun _ => ?_)
            clear hK K
            refine wpAnyH_ready (rs := [7]) (by kernel_rfl) (by simp) ?_
            refine AllReadyH.cons rfl (fun K hK => ?_) AllReadyH.nil
            go_simp
            refine (HPK.out wd hs).mono ?_
            rintro e w6 ⟨vb, rfl, ho6, u6⟩
            have s6 : Up wr w6 := hs.trans u6
            refine hK.out _ _ s6 (fun _ => ?_)
            clear hK K
            obtain ⟨PE2, hPE⟩ : ∃ PE2, pkE ad NX Rs = PE2 := ⟨_, rfl⟩
            have HPE : Hid (pkE ad NX Rs = PE2) := hPE
            rw [hPE]
            clear hPE
            refine take_to (some 46) (i := 8) (v := .tuple #[vb, PE2]) rfl rfl (by kernel_rfl) (by kernel_rfl) (by kernel_rfl) (fun _ _ _ h => h) (Or.inl ⟨by kernel_rfl, by intro u hSu; go_simp⟩) s6 ?_
            simp only [Act.put, List.setIfInBounds_toArray, List.set_cons_zero, List.set_cons_succ]
            refine take_to (some 55) (i := 9) (v := vb) rfl rfl (by kernel_rfl) (by kernel_rfl) (by kernel_rfl) (fun _ _ _ h => h) (Or.inl ⟨by kernel_rfl, by intro u hSu; go_simp⟩) s6 ?_
            simp only [Act.put, List.setIfInBounds_toArray, List.set_cons_zero, List.set_cons_succ]
            refine take_to (some 56) (i := 10) (v := PE2) rfl rfl (by kernel_rfl) (by kernel_rfl) (by kernel_rfl) (fun _ _ _ h => h) (Or.inl ⟨by kernel_rfl, by intro u hSu; go_simp⟩) s6 ?_
            simp only [Act.put, List.setIfInBounds_toArray, List.set_cons_zero, List.set_cons_succ]
            refine take_to (some 11) (i := 11) (v := vb) rfl rfl (by kernel_rfl) (by kernel_rfl) (by kernel_rfl) (fun _ _ _ h => h) (Or.inl ⟨by kernel_rfl, by intro u hSu; go_simp⟩) s6 ?_
            simp only [Act.put, List.setIfInBounds_toArray, List.set_cons_zero, List.set_cons_succ]
            refine take_to (some 12) (i := 12) (v := PE2) rfl rfl (by kernel_rfl) (by kernel_rfl) (by kernel_rfl) (fun _ _ _ h => h) (Or.inl ⟨by kernel_rfl, by intro u hSu; go_simp⟩) s6 ?_
            simp only [Act.put, List.setIfInBounds_toArray, List.set_cons_zero, List.set_cons_succ]
            refine wpAnyH_done (by kernel_rfl) ?_ _
            obtain ⟨pb, qb, rfl⟩ := OwnB.slice ho6
            have HO : Hid (Up wr w6) := s6
            have U6 : Up w w6 := HK.out.2.trans (HB.out.1.sg.up.trans s6)
            have c6 := (HC.out w6 U6).1
            clear hs hs0 u6 s6 ho6 HPK HNXT HCW
            by_cases hne : Rs = []
            · have hR00 : R = 0 := by rw [← HRL.out, hne]; rfl
              subst hR00
              have hnone := SegAppend_none w1 w6 db sb (nameB x) (x + cntB GS) GS.length _ L (.slice ai 0 ci) (HB.out.1.sg.next HO.out) (by have := HRW.out.up U6; rw [hne] at this; simpa using this)
              have hpe : PE2 = .nilIface := by rw [← HPE.out]; unfold pkE; rw [if_pos hne]
              subst hpe
              have HB2 : Hid (BackR w w1 w6 db sb x va GS (wtG (gs.take (i + 1))) (i + 1) F ops room L vs ∧ nb = GS.length) := ⟨HB.out.1.same HO.out (by have := hwt.out.1; omega), HB.out.2⟩
              clear hne
              go_wp2_with fail
              refine hnone.mono ?_
              rintro e w7 ⟨rfl, hw7⟩
              obtain rfl : w6 = w7 := hw7.symm
              clear hnone
              obtain ⟨hB2, hNB2⟩ := HB2.out
              have UW : Up w w6 := HK.out.2.trans hB2.sg.up
              have cw := (HC.out w6 UW).2
              obtain ⟨M, hM⟩ : ∃ M, cntB GS = M := ⟨_, rfl⟩
              have hM2 : M ≤ 524288 := by have h1 := hB2.num.2.2.2; have h2 := hwt.out.2; omega
              have hXM : x + M ≤ 4611686018427387905 := by rw [← hM]; exact hB2.fit.top (by have := HX.out; omega)
              obtain ⟨av, cv, hva⟩ : ∃ av cv, va = .slice av M cv := by obtain ⟨a', c', e⟩ := hB2.all.row.len; exact ⟨a', c', by rw [e, hB2.all.len, ← hM]; rfl⟩
              subst hva
              have HM : Hid (cntB GS = M ∧ M ≤ 524288 ∧ x + M ≤ 4611686018427387905) := ⟨hM, hM2, hXM⟩
              have M0 : (0 : Int) ≤ (M : Int) := by omega
              have M1 : (M : Int) ≤ 524288 := by omega
              have x0 : (0 : Int) ≤ (x : Int) := by omega
              have wM : IntKind.u64.wrap (M : Int) = (M : Int) := by rw [IntKind.wrap_u64]; omega
              have wX : IntKind.u64.wrap ((x : Int) + (M : Int)) = (x : Int) + (M : Int) := by rw [IntKind.wrap_u64]; omega
              have HNX2 : Hid (∀ u sb', Box u sb' (scells db (nameB x) (x + cntB GS) (GS).length true false) → Calls Tryz.prog 17 #[.pointer (some ⟨sb', 0, none⟩)] u fun e w' => e = .returned (.int .u64 ((x : Int) + (M : Int))) ∧ w' = u) := fun u sb' hb => by
                have h := Next_any sb' db (nameB x) (x + cntB GS) (GS).length true false u hb
                rw [HM.out.1, Int.natCast_add] at h
                exact h
              have HBL2 : Hid (∀ u sb', Box u sb' (scells db (nameB x) (x + cntB GS) (GS).length true false) → Calls Tryz.prog 26 #[.pointer (some ⟨sb', 0, none⟩)] u fun e w' => e = .returned (.int .i64 (nb : Int)) ∧ w' = u) := fun u sb' hb => by
                have h := Blocks_any sb' db (nameB x) (x + cntB GS) (GS).length true false u hb
                rw [← HB2.out.2] at h
                exact h
              cases sy with
              | false =>
                have q1 := HNX2.out w6 sb hB2.sg.box
                have q2 := HBL2.out w6 sb hB2.sg.box
                have q3 := Whole_any sb db (nameB x) (x + cntB GS) (GS).length true false w6 hB2.sg.box
                clear hB2 hNB2 hM hM2 hXM
                go_wp2_with fail
                refine q1.mono ?_
                rintro e w20 ⟨rfl, hw20⟩
                obtain rfl : w6 = w20 := hw20.symm
                clear q1
                go_wp2_with fail
                refine q2.mono ?_
                rintro e w20 ⟨rfl, hw20⟩
                obtain rfl : w6 = w20 := hw20.symm
                clear q2
                go_wp2_with fail
                refine q3.mono ?_
                rintro e w20 ⟨rfl, hw20⟩
                obtain rfl : w6 = w20 := hw20.symm
                clear q3
                go_wp2_with fail
                go_roundg (N - (i + 1))
                case measure => have := HI.out; omega
                case rel => exact ⟨i + 1, sb, _, nb, rfl, by go_num, rfl, rfl, rfl, by have := HI.out; omega, GS, F, ops, room, L, vs, HB2.out.2, HB2.out.1⟩
              | true =>
                have hlen := pkB_length x GS hB2.fit
                have hmany := hB2.fit.many
                have hop := SegOpen_any w1 w6 db x F ops 0 (fun _ => none) 0 room L ad HK.out.1 hB2.sg.up hB2.sg.dsk HX.out.1 HX.out.2 hB2.fok hB2.bad (by rw [hB2.dat, hlen]; omega) ((GS).flatten, (GS).length) (by rw [hB2.dat]; exact hB2.fit.scan) (by show cntB GS ≤ _; omega) (by show (GS).length ≤ _; omega)
                have hdec : decide (512 * (GS).length = (F).seen.data.length) = true := by rw [hB2.dat, hlen]; simp
                clear hB2 hNB2 hM hM2 hXM hlen hmany
                go_wp2_with fail
                refine hop.mono ?_
                rintro e w20 ⟨sb2, v20, vs20, B20, rfl, b20, r20, u20, n20, -⟩
                clear hop
                have b21 : Box w20 sb2 (scells db (nameB x) (x + cntB GS) (GS).length true false) := by
                  have h := b20
                  simp only [hdec] at h
                  exact h
                have hO := HB2.out.1.opened u20 b21 n20
                have hls := lists_any v20 _ (GS).flatten w20 r20.rw (hO.all.rw (UW.trans u20)) (by show cntB GS ≤ _; have := HM.out; omega)
                have HO2 : Hid (BackR w w1 w20 db sb2 x (.slice av M cv) GS (wtG (gs.take (i + 1))) (i + 1) F ops room L vs) := hO
                clear b20 r20 u20 n20 hO b21 hdec
                go_wp2_with fail
                refine hls.mono ?_
                rintro e w21 ⟨rfl, nd, hw21⟩
                clear hls
                have u21 : Up w20 w21 := by rw [hw21]; exact up_drewN _ _
                have HO3 : Hid (BackR w w1 w21 db sb2 x (.slice av M cv) GS (wtG (gs.take (i + 1))) (i + 1) F ops room L vs) := HO2.out.up u21
                clear hw21 u21 HO2
                have q1 := HNX2.out w21 sb2 HO3.out.sg.box
                have q2 := HBL2.out w21 sb2 HO3.out.sg.box
                have q3 := Whole_any sb2 db (nameB x) (x + cntB GS) (GS).length true false w21 HO3.out.sg.box
                go_wp2_with fail
                refine q1.mono ?_
                rintro e w22 ⟨rfl, hw22⟩
                obtain rfl : w21 = w22 := hw22.symm
                clear q1
                go_wp2_with fail
                refine q2.mono ?_
                rintro e w22 ⟨rfl, hw22⟩
                obtain rfl : w21 = w22 := hw22.symm
                clear q2
                go_wp2_with fail
                refine q3.mono ?_
                rintro e w22 ⟨rfl, hw22⟩
                obtain rfl : w21 = w22 := hw22.symm
                clear q3
                go_wp2_with fail
                go_roundg (N - (i + 1))
                case measure => have := HI.out; omega
                case rel => exact ⟨i + 1, sb2, _, nb, rfl, by go_num, rfl, rfl, rfl, by have := HI.out; omega, GS, F, ops, room, L, vs, HB2.out.2, HO3.out⟩
            · rcases pkE_cases ad NX Rs hne with ⟨hnum, hlg, hpe, hpr⟩ | ⟨a, hpe, hpr⟩
              · have hpe2 : PE2 = .nilIface := by rw [← HPE.out]; exact hpe
                subst hpe2
                rw [hpr]
                have hnum2 : NumOk (x + cntB GS) Rs.length := by rw [HNX.out.1]; exact hnum
                have hm := HB.out.1.fit.more hnum2 hlg
                have hap := SegAppend_ok w1 w6 db sb (nameB x) (x + cntB GS) GS.length F ops 0 (fun _ => none) 0 room L (.slice ai Rs.length ci) Rs ad (HB.out.1.sg.next HO.out) HK.out.1 (HRW.out.up U6) hne (by have := HRN.out; omega) (by have := HNX.out.1; have := hnum.2.2.1; omega) hnum2 hlg (sg_goes _ _ _ _) HB.out.1.fok HB.out.1.num.1 HB.out.1.num.2.1 (by omega) (by have h1 := HB.out.1.num.2.2.1; have h2 := HI.out; have h3 := HF.out; have h4 := HN.out; have h5 := wtG_len gs; omega) (by
                  rw [HB.out.1.dat, pkB_length _ _ HB.out.1.fit, hm.2.2.2.1]
                  have h1 := HRN.out
                  have h2 := HB.out.1.fit.many
                  have h3 := cutsB_le Rs.length Rs
                  omega) (by have h1 := HRN.out; have h2 := HB.out.1.fit.many; omega) (by rw [nameB_length x (by have := HX.out; omega)]; omega) (fun k q h => by cases h)
                rw [HRL.out] at hap
                have hRpos : (0 : Int) < (R : Int) := by have h1 := List.length_pos_iff.2 hne; have h2 := HRL.out; omega
                obtain ⟨bb, oo, cc, us, hvi, hus, hcells, heach⟩ := HRW.out.values hne
                obtain ⟨rfl, rfl⟩ : ai = some ⟨bb, oo, none⟩ ∧ ci = cc := by simp only [Value.slice.injEq] at hvi; exact ⟨hvi.1, hvi.2.2⟩
                obtain ⟨Z, hZ⟩ : ∃ Z, (packB NX Rs).length = Z := ⟨_, rfl⟩
                have HZ : Hid ((packB (x + cntB GS) Rs).length = Z ∧ Z ≤ 268435456 ∧ NumOk (x + cntB GS) Rs.length ∧ anyLong Rs = false) := by
                  refine ⟨by rw [HNX.out.1]; exact hZ, ?_, hnum2, hlg⟩
                  have h1 := hm.2.2.2.1
                  rw [HNX.out.1, hZ] at h1
                  have h3 := cutsB_le Rs.length Rs
                  have := HRN.out
                  omega
                have HUS : Hid (us.length = Rs.length ∧ (∀ j u, us[j]? = some u → w.cell? ((⟨bb, oo, none⟩ : Addr).add j) = some u) ∧ (∀ j (h1 : j < us.length) (h2 : j < Rs.length), Sl 0 w us[j] Rs[j])) := ⟨hus, hcells, heach⟩
                rw [hZ]
                clear hnum hlg hpe hpr hnum2 hm hne hvi hus hcells heach hZ
                go_wp2_with fail
                refine hap.mono ?_
                rintro e w7 ⟨L7, rfl, h7, hL7, t7⟩
                clear hap
                have hagn := agree_nil w7
                have U7 : Up w w7 := HK.out.2.trans h7.up
                have c7 := (HC.out w7 U7).1
                have c7b := (HC.out w7 U7).2
                have HA7 : Hid (AllR w w7 w1.heap.size va GS.flatten vs) := HB.out.1.all.kept (S := sb :: L) ((Touch.of_up HO.out _).trans t7 (fun k hk => .inl hk)) (fun k hk hm => by
                  have := HB.out.1.apart k hk
                  rcases List.mem_cons.1 hm with r | r
                  · exact this.2 r
                  · exact this.1 r)
                have H7 : Hid (SgAt w1 w7 db sb (nameB x) (x + cntB GS + Rs.length) (GS.length + (packB (x + cntB GS) Rs).length / 512) true false (sgD (nameB x) (F.add (packB (x + cntB GS) Rs)) (ops + 1) 0 (fun _ => none) 0 (room + 1)) L7 ∧ (∀ k ∈ L7, k ∈ L ∨ wr.heap.size ≤ k)) := ⟨by rw [HRL.out]; exact h7, fun k hk => (hL7 k hk).imp id (fun q => Nat.le_trans HO.out.size q)⟩
                have HU7 : Hid (Up w w7) := U7
                have hcell7 : ∀ j u, us[j]? = some u → w7.cell? ((⟨bb, oo, none⟩ : Addr).add j) = some u := fun j u hj => by
                  have := HUS.out.2.1 j u hj
                  rw [U7.cell (World.block_lt_of_cell? w _ this)]; exact this
                have hone : ∀ u ∈ us, u.oneCell' = true := fun u hu => by
                  obtain ⟨j, hj, rfl⟩ := List.getElem_of_mem hu
                  exact sl_one (HUS.out.2.2 j hj (by have := HUS.out.1; omega))
                have hrow7 := HA7.out.row
                have hsz7 : w1.heap.size ≤ w7.heap.size := h7.up.size
                have hlen7 : vs.length + us.length ≤ 1000000000 := by
                  have h1 := HB.out.1.all.len
                  have h2 : GS.flatten.length = cntB GS := rfl
                  have h3 := HRN.out
                  have h4 := HUS.out.1
                  omega
                have husl : us.length = R := by rw [HUS.out.1, HRL.out]
                have husne : us ≠ [] := by
                  have h1 := husl
                  intro e
                  rw [e] at h1
                  simp at h1
                  omega
                have HUL : Hid (us.length = R) := husl
                obtain ⟨Qz, hQz⟩ : ∃ Qz : Nat, Z / 512 = Qz := ⟨_, rfl⟩
                obtain ⟨NB2, hNB⟩ : ∃ NB2, nb + Qz = NB2 := ⟨_, rfl⟩
                have z1 : (Z : Int) / 512 = (Qz : Int) := by omega
                have z2 : (nb : Int) + (Qz : Int) = (NB2 : Int) := by omega
                have z3 : (0 : Int) ≤ (Z : Int) := by omega
                have z4 : (Z : Int) ≤ 268435456 := by have := HZ.out.2.1; omega
                have z5 : (0 : Int) ≤ (nb : Int) := by omega
                have z6 : (nb : Int) ≤ 1000000 := by have h1 := HB.out.2; have h2 := HB.out.1.fit.many; have h3 := HRN.out; omega
                have z7 : (0 : Int) ≤ (Qz : Int) := by omega
                have z8 : (Qz : Int) ≤ 1000000 := by omega
                have HQ : Hid (Z / 512 = Qz ∧ nb + Qz = NB2) := ⟨hQz, hNB⟩
                clear h7 hL7 t7 U7 hQz hNB c6
                go_wp2_with fail
                refine hagn.mono ?_
                rintro e w8 ⟨rfl, hw8⟩
                obtain rfl : w7 = w8 := hw8.symm
                clear hagn
                go_wp2_with (at_builtin; refine wpList_appVW _ rfl (.tmp 88) (.tmp 93) rfl w1.heap.size va vs us rfl ⟨bb, oo, none⟩ ci ?hx hrow7 hcell7 hone hsz7 hlen7 husne ?_)
                case hx => rw [husl]; rfl
                intro va8 w8 ho8 hg8 hm8
                have HB2 : Hid (BackR w w1 w8 db sb x va8 (GS ++ cutsB Rs.length Rs) (wtG (gs.take (i + 1))) (i + 1) (F.add (packB (x + cntB GS) Rs)) (ops + 1) (room + 1) L7 (vs ++ us) ∧ NB2 = (GS ++ cutsB Rs.length Rs).length) := by
                  refine ⟨?_, ?_⟩
                  · rw [hwt.out.1]
                    exact HB.out.1.appended HX.out.2 HZ.out.2.2.1 HZ.out.2.2.2 H7.out.1 H7.out.2 HA7.out ho8 hg8 hm8 HUS.out.1 HUS.out.2.2
                  · have h1 := (HB.out.1.fit.more HZ.out.2.2.1 HZ.out.2.2.2).2.2.2.1
                    have h2 := HB.out.2
                    have h3 := HZ.out.1
                    have h4 := HQ.out
                    rw [List.length_append]
                    omega
                clear ho8 hg8 hm8 hcell7 hone hrow7 hsz7 hlen7 husl husne c7 c7b
                obtain ⟨hB2, hNB2⟩ := HB2.out
                have UW : Up w w8 := HK.out.2.trans hB2.sg.up
                have cw := (HC.out w8 UW).2
                obtain ⟨M, hM⟩ : ∃ M, cntB (GS ++ cutsB Rs.length Rs) = M := ⟨_, rfl⟩
                have hM2 : M ≤ 524288 := by have h1 := hB2.num.2.2.2; have h2 := hwt.out.2; omega
                have hXM : x + M ≤ 4611686018427387905 := by rw [← hM]; exact hB2.fit.top (by have := HX.out; omega)
                obtain ⟨av, cv, hva⟩ : ∃ av cv, va8 = .slice av M cv := by obtain ⟨a', c', e⟩ := hB2.all.row.len; exact ⟨a', c', by rw [e, hB2.all.len, ← hM]; rfl⟩
                subst hva
                have HM : Hid (cntB (GS ++ cutsB Rs.length Rs) = M ∧ M ≤ 524288 ∧ x + M ≤ 4611686018427387905) := ⟨hM, hM2, hXM⟩
                have M0 : (0 : Int) ≤ (M : Int) := by omega
                have M1 : (M : Int) ≤ 524288 := by omega
                have x0 : (0 : Int) ≤ (x : Int) := by omega
                have wM : IntKind.u64.wrap (M : Int) = (M : Int) := by rw [IntKind.wrap_u64]; omega
                have wX : IntKind.u64.wrap ((x : Int) + (M : Int)) = (x : Int) + (M : Int) := by rw [IntKind.wrap_u64]; omega
                have HNX2 : Hid (∀ u sb', Box u sb' (scells db (nameB x) (x + cntB (GS ++ cutsB Rs.length Rs)) ((GS ++ cutsB Rs.length Rs)).length true false) → Calls Tryz.prog 17 #[.pointer (some ⟨sb', 0, none⟩)] u fun e w' => e = .returned (.int .u64 ((x : Int) + (M : Int))) ∧ w' = u) := fun u sb' hb => by
                  have h := Next_any sb' db (nameB x) (x + cntB (GS ++ cutsB Rs.length Rs)) ((GS ++ cutsB Rs.length Rs)).length true false u hb
                  rw [HM.out.1, Int.natCast_add] at h
                  exact h
                have HBL2 : Hid (∀ u sb', Box u sb' (scells db (nameB x) (x + cntB (GS ++ cutsB Rs.length Rs)) ((GS ++ cutsB Rs.length Rs)).length true false) → Calls Tryz.prog 26 #[.pointer (some ⟨sb', 0, none⟩)] u fun e w' => e = .returned (.int .i64 (NB2 : Int)) ∧ w' = u) := fun u sb' hb => by
                  have h := Blocks_any sb' db (nameB x) (x + cntB (GS ++ cutsB Rs.length Rs)) ((GS ++ cutsB Rs.length Rs)).length true false u hb
                  rw [← HB2.out.2] at h
                  exact h
                cases sy with
                | false =>
                  have q1 := HNX2.out w8 sb hB2.sg.box
                  have q2 := HBL2.out w8 sb hB2.sg.box
                  have q3 := Whole_any sb db (nameB x) (x + cntB (GS ++ cutsB Rs.length Rs)) ((GS ++ cutsB Rs.length Rs)).length true false w8 hB2.sg.box
                  clear hB2 hNB2 hM hM2 hXM
                  go_wp2_with fail
                  refine q1.mono ?_
                  rintro e w20 ⟨rfl, hw20⟩
                  obtain rfl : w8 = w20 := hw20.symm
                  clear q1
                  go_wp2_with fail
                  refine q2.mono ?_
                  rintro e w20 ⟨rfl, hw20⟩
                  obtain rfl : w8 = w20 := hw20.symm
                  clear q2
                  go_wp2_with fail
                  refine q3.mono ?_
                  rintro e w20 ⟨rfl, hw20⟩
                  obtain rfl : w8 = w20 := hw20.symm
                  clear q3
                  go_wp2_with fail
                  go_roundg (N - (i + 1))
                  case measure => have := HI.out; omega
                  case rel => exact ⟨i + 1, sb, _, NB2, rfl, by go_num, rfl, rfl, rfl, by have := HI.out; omega, (GS ++ cutsB Rs.length Rs), (F.add (packB (x + cntB GS) Rs)), (ops + 1), (room + 1), L7, (vs ++ us), HB2.out.2, HB2.out.1⟩
                | true =>
                  have hlen := pkB_length x (GS ++ cutsB Rs.length Rs) hB2.fit
                  have hmany := hB2.fit.many
                  have hop := SegOpen_any w1 w8 db x (F.add (packB (x + cntB GS) Rs)) (ops + 1) 0 (fun _ => none) 0 (room + 1) L7 ad HK.out.1 hB2.sg.up hB2.sg.dsk HX.out.1 HX.out.2 hB2.fok hB2.bad (by rw [hB2.dat, hlen]; omega) (((GS ++ cutsB Rs.length Rs)).flatten, ((GS ++ cutsB Rs.length Rs)).length) (by rw [hB2.dat]; exact hB2.fit.scan) (by show cntB (GS ++ cutsB Rs.length Rs) ≤ _; omega) (by show ((GS ++ cutsB Rs.length Rs)).length ≤ _; omega)
                  have hdec : decide (512 * ((GS ++ cutsB Rs.length Rs)).length = ((F.add (packB (x + cntB GS) Rs))).seen.data.length) = true := by rw [hB2.dat, hlen]; simp
                  clear hB2 hNB2 hM hM2 hXM hlen hmany
                  go_wp2_with fail
                  refine hop.mono ?_
                  rintro e w20 ⟨sb2, v20, vs20, B20, rfl, b20, r20, u20, n20, -⟩
                  clear hop
                  have b21 : Box w20 sb2 (scells db (nameB x) (x + cntB (GS ++ cutsB Rs.length Rs)) ((GS ++ cutsB Rs.length Rs)).length true false) := by
                    have h := b20
                    simp only [hdec] at h
                    exact h
                  have hO := HB2.out.1.opened u20 b21 n20
                  have hls := lists_any v20 _ ((GS ++ cutsB Rs.length Rs)).flatten w20 r20.rw (hO.all.rw (UW.trans u20)) (by show cntB (GS ++ cutsB Rs.length Rs) ≤ _; have := HM.out; omega)
                  have HO2 : Hid (BackR w w1 w20 db sb2 x (.slice av M cv) (GS ++ cutsB Rs.length Rs) (wtG (gs.take (i + 1))) (i + 1) (F.add (packB (x + cntB GS) Rs)) (ops + 1) (room + 1) L7 (vs ++ us)) := hO
                  clear b20 r20 u20 n20 hO b21 hdec
                  go_wp2_with fail
                  refine hls.mono ?_
                  rintro e w21 ⟨rfl, nd, hw21⟩
                  clear hls
                  have u21 : Up w20 w21 := by rw [hw21]; exact up_drewN _ _
                  have HO3 : Hid (BackR w w1 w21 db sb2 x (.slice av M cv) (GS ++ cutsB Rs.length Rs) (wtG (gs.take (i + 1))) (i + 1) (F.add (packB (x + cntB GS) Rs)) (ops + 1) (room + 1) L7 (vs ++ us)) := HO2.out.up u21
                  clear hw21 u21 HO2
                  have q1 := HNX2.out w21 sb2 HO3.out.sg.box
                  have q2 := HBL2.out w21 sb2 HO3.out.sg.box
                  have q3 := Whole_any sb2 db (nameB x) (x + cntB (GS ++ cutsB Rs.length Rs)) ((GS ++ cutsB Rs.length Rs)).length true false w21 HO3.out.sg.box
                  go_wp2_with fail
                  refine q1.mono ?_
                  rintro e w22 ⟨rfl, hw22⟩
                  obtain rfl : w21 = w22 := hw22.symm
                  clear q1
                  go_wp2_with fail
                  refine q2.mono ?_
                  rintro e w22 ⟨rfl, hw22⟩
                  obtain rfl : w21 = w22 := hw22.symm
                  clear q2
                  go_wp2_with fail
                  refine q3.mono ?_
                  rintro e w22 ⟨rfl, hw22⟩
                  obtain rfl : w21 = w22 := hw22.symm
                  clear q3
                  go_wp2_with fail
                  go_roundg (N - (i + 1))
                  case measure => have := HI.out; omega
                  case rel => exact ⟨i + 1, sb2, _, NB2, rfl, by go_num, rfl, rfl, rfl, by have := HI.out; omega, (GS ++ cutsB Rs.length Rs), (F.add (packB (x + cntB GS) Rs)), (ops + 1), (room + 1), L7, (vs ++ us), HB2.out.2, HO3.out⟩
              · have hpe2 : PE2 = E a := by rw [← HPE.out]; exact hpe
                subst hpe2
                have hbd := SegAppend_bad w1 w6 db sb (nameB x) (x + cntB GS) GS.length _ L (.slice ai Rs.length ci) Rs ad a (HB.out.1.sg.next HO.out) HK.out.1 (HRW.out.up U6) hne (by have := HRN.out; omega) (by have := HNX.out; omega) (by rw [HNX.out.1]; exact hpe)
                rw [HRL.out] at hbd
                have hRpos : (0 : Int) < (R : Int) := by have h1 := List.length_pos_iff.2 hne; have h2 := HRL.out; omega
                clear hpe hpr hne
                go_wp2_with fail
                refine hbd.mono ?_
                rintro e w7 ⟨rfl, u7⟩
                clear hbd
                have hagn := agree_same a w7
                have c7 := (HC.out w7 (U6.trans u7)).1
                have HB2 : Hid (BackR w w1 w7 db sb x va GS (wtG (gs.take (i + 1))) (i + 1) F ops room L vs ∧ nb = GS.length) := ⟨HB.out.1.same (HO.out.trans u7) (by have := hwt.out.1; omega), HB.out.2⟩
                clear u7 c6
                go_wp2_with fail
                refine hagn.mono ?_
                rintro e w8 ⟨rfl, hw8⟩
                obtain rfl : w7 = w8 := hw8.symm
                clear hagn c7
                obtain ⟨hB2, hNB2⟩ := HB2.out
                have UW : Up w w7 := HK.out.2.trans hB2.sg.up
                have cw := (HC.out w7 UW).2
                obtain ⟨M, hM⟩ : ∃ M, cntB GS = M := ⟨_, rfl⟩
                have hM2 : M ≤ 524288 := by have h1 := hB2.num.2.2.2; have h2 := hwt.out.2; omega
                have hXM : x + M ≤ 4611686018427387905 := by rw [← hM]; exact hB2.fit.top (by have := HX.out; omega)
                obtain ⟨av, cv, hva⟩ : ∃ av cv, va = .slice av M cv := by obtain ⟨a', c', e⟩ := hB2.all.row.len; exact ⟨a', c', by rw [e, hB2.all.len, ← hM]; rfl⟩
                subst hva
                have HM : Hid (cntB GS = M ∧ M ≤ 524288 ∧ x + M ≤ 4611686018427387905) := ⟨hM, hM2, hXM⟩
                have M0 : (0 : Int) ≤ (M : Int) := by omega
                have M1 : (M : Int) ≤ 524288 := by omega
                have x0 : (0 : Int) ≤ (x : Int) := by omega
                have wM : IntKind.u64.wrap (M : Int) = (M : Int) := by rw [IntKind.wrap_u64]; omega
                have wX : IntKind.u64.wrap ((x : Int) + (M : Int)) = (x : Int) + (M : Int) := by rw [IntKind.wrap_u64]; omega
                have HNX2 : Hid (∀ u sb', Box u sb' (scells db (nameB x) (x + cntB GS) (GS).length true false) → Calls Tryz.prog 17 #[.pointer (some ⟨sb', 0, none⟩)] u fun e w' => e = .returned (.int .u64 ((x : Int) + (M : Int))) ∧ w' = u) := fun u sb' hb => by
                  have h := Next_any sb' db (nameB x) (x + cntB GS) (GS).length true false u hb
                  rw [HM.out.1, Int.natCast_add] at h
                  exact h
                have HBL2 : Hid (∀ u sb', Box u sb' (scells db (nameB x) (x + cntB GS) (GS).length true false) → Calls Tryz.prog 26 #[.pointer (some ⟨sb', 0, none⟩)] u fun e w' => e = .returned (.int .i64 (nb : Int)) ∧ w' = u) := fun u sb' hb => by
                  have h := Blocks_any sb' db (nameB x) (x + cntB GS) (GS).length true false u hb
                  rw [← HB2.out.2] at h
                  exact h
                cases sy with
                | false =>
                  have q1 := HNX2.out w7 sb hB2.sg.box
                  have q2 := HBL2.out w7 sb hB2.sg.box
                  have q3 := Whole_any sb db (nameB x) (x + cntB GS) (GS).length true false w7 hB2.sg.box
                  clear hB2 hNB2 hM hM2 hXM
                  go_wp2_with fail
                  refine q1.mono ?_
                  rintro e w20 ⟨rfl, hw20⟩
                  obtain rfl : w7 = w20 := hw20.symm
                  clear q1
                  go_wp2_with fail
                  refine q2.mono ?_
                  rintro e w20 ⟨rfl, hw20⟩
                  obtain rfl : w7 = w20 := hw20.symm
                  clear q2
                  go_wp2_with fail
                  refine q3.mono ?_
                  rintro e w20 ⟨rfl, hw20⟩
                  obtain rfl : w7 = w20 := hw20.symm
                  clear q3
                  go_wp2_with fail
                  go_roundg (N - (i + 1))
                  case measure => have := HI.out; omega
                  case rel => exact ⟨i + 1, sb, _, nb, rfl, by go_num, rfl, rfl, rfl, by have := HI.out; omega, GS, F, ops, room, L, vs, HB2.out.2, HB2.out.1⟩
                | true =>
                  have hlen := pkB_length x GS hB2.fit
                  have hmany := hB2.fit.many
                  have hop := SegOpen_any w1 w7 db x F ops 0 (fun _ => none) 0 room L ad HK.out.1 hB2.sg.up hB2.sg.dsk HX.out.1 HX.out.2 hB2.fok hB2.bad (by rw [hB2.dat, hlen]; omega) ((GS).flatten, (GS).length) (by rw [hB2.dat]; exact hB2.fit.scan) (by show cntB GS ≤ _; omega) (by show (GS).length ≤ _; omega)
                  have hdec : decide (512 * (GS).length = (F).seen.data.length) = true := by rw [hB2.dat, hlen]; simp
                  clear hB2 hNB2 hM hM2 hXM hlen hmany
                  go_wp2_with fail
                  refine hop.mono ?_
                  rintro e w20 ⟨sb2, v20, vs20, B20, rfl, b20, r20, u20, n20, -⟩
                  clear hop
                  have b21 : Box w20 sb2 (scells db (nameB x) (x + cntB GS) (GS).length true false) := by
                    have h := b20
                    simp only [hdec] at h
                    exact h
                  have hO := HB2.out.1.opened u20 b21 n20
                  have hls := lists_any v20 _ (GS).flatten w20 r20.rw (hO.all.rw (UW.trans u20)) (by show cntB GS ≤ _; have := HM.out; omega)
                  have HO2 : Hid (BackR w w1 w20 db sb2 x (.slice av M cv) GS (wtG (gs.take (i + 1))) (i + 1) F ops room L vs) := hO
                  clear b20 r20 u20 n20 hO b21 hdec
                  go_wp2_with fail
                  refine hls.mono ?_
                  rintro e w21 ⟨rfl, nd, hw21⟩
                  clear hls
                  have u21 : Up w20 w21 := by rw [hw21]; exact up_drewN _ _
                  have HO3 : Hid (BackR w w1 w21 db sb2 x (.slice av M cv) GS (wtG (gs.take (i + 1))) (i + 1) F ops room L vs) := HO2.out.up u21
                  clear hw21 u21 HO2
                  have q1 := HNX2.out w21 sb2 HO3.out.sg.box
                  have q2 := HBL2.out w21 sb2 HO3.out.sg.box
                  have q3 := Whole_any sb2 db (nameB x) (x + cntB GS) (GS).length true false w21 HO3.out.sg.box
                  go_wp2_with fail
                  refine q1.mono ?_
                  rintro e w22 ⟨rfl, hw22⟩
                  obtain rfl : w21 = w22 := hw22.symm
                  clear q1
                  go_wp2_with fail
                  refine q2.mono ?_
                  rintro e w22 ⟨rfl, hw22⟩
                  obtain rfl : w21 = w22 := hw22.symm
                  clear q2
                  go_wp2_with fail
                  refine q3.mono ?_
                  rintro e w22 ⟨rfl, hw22⟩
                  obtain rfl : w21 = w22 := hw22.symm
                  clear q3
                  go_wp2_with fail
                  go_roundg (N - (i + 1))
                  case measure => have := HI.out; omega
                  case rel => exact ⟨i + 1, sb2, _, nb, rfl, by go_num, rfl, rfl, rfl, by have := HI.out; omega, GS, F, ops, room, L, vs, HB2.out.2, HO3.out⟩
          · have hi1 : ¬ (i : Int) < (N : Int) := by omega
            obtain ⟨GS, F, ops, room, L, vs, hnb, hB⟩ := HR.out.2
            have hnm := Name_any x wr (by have := HX.out; omega) (HK.out.1.up hB.sg.up).tz
            have hlen := pkB_length x GS hB.fit
            have hmany := hB.fit.many
            have hsm : 8 * cntB GS ≤ 4194304 := by have h1 := hB.num.2.2.2; have h2 := wtG_le gs i; have h3 := HF.out; omega
            have HRD : Hid (∀ u, Up wr u → Calls Tryz.prog 28 #[.pointer (some ⟨db, 0, none⟩), Sv (nameB x)] u fun e w' => ∃ vd vb, e = .returned (.tuple #[vd, vb, .nilIface]) ∧ Copied u w' u.heap.size vd vb F.seen) := fun u hu =>
              Read_any w1.heap.size db _ L u (nameB x) 0 F (hB.sg.dsk.up hu) rfl (sgD_seen _ _ _ _ _ _ _) rfl hB.fok (by rw [hB.dat, hlen]; unfold CB; omega) (by rw [nameB_length x (by have := HX.out; omega)]; unfold maxLen; omega)
            obtain ⟨Z, hZ⟩ : ∃ Z, 512 * nb = Z := ⟨_, rfl⟩
            have HD : Hid (F.seen.data.length = Z ∧ F.seen.bad.length = 0 ∧ Up w wr) := ⟨by rw [hB.dat, hlen, ← hZ, hnb], by rw [hB.bad]; rfl, HK.out.2.trans hB.sg.up⟩
            have z1 : (nb : Int) * 512 = (Z : Int) := by omega
            have z5 : (0 : Int) ≤ (nb : Int) := by omega
            have z6 : (nb : Int) ≤ 1000000 := by omega
            have z2 : (Z : Int) ≤ 512000000 := by omega
            have z3 : (0 : Int) ≤ (Z : Int) := by omega
            clear hi hlen hmany hsm hnb hB hZ
            go_wp2_with fail
            refine hnm.mono ?_
            rintro e w5 ⟨rfl, u5⟩
            clear hnm
            have hrd := HRD.out w5 u5
            go_wp2_with fail
            refine hrd.mono ?_
            rintro e w6 ⟨vd, vb, rfl, hc6⟩
            clear hrd
            have HU : Hid (Up w w6) := (HD.out.2.2.trans u5).trans hc6.up
            obtain ⟨pd, qd, rfl⟩ := hc6.dat.slice
            obtain ⟨pb, qb, rfl⟩ := hc6.bad.slice
            rw [HD.out.1, HD.out.2.1]
            clear hc6 u5
            go_wp2
            go_ret
            exact ⟨rfl, HU.out⟩
end Go.Proofs.YtkfjkfpodkbkaaaGreatDoor
