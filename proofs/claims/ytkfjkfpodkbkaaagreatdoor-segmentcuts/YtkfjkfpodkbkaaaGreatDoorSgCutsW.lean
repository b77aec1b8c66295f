/- segment: SegmentCuts: the walk. (Laid by genCuts.py.) -/
import Derived.Test.YtkfjkfpodkbkaaaGreatDoorSgCuts0
set_option linter.unusedVariables false
set_option linter.unusedSimpArgs false
namespace Go.Proofs.YtkfjkfpodkbkaaaGreatDoor
open Go Go.RowKit

set_option maxRecDepth 20000 in
set_option maxHeartbeats 6400000 in
theorem SegmentCuts_any (x : Nat) (v vj : Value) (gs : List Grp) (junk : List UInt8) (w : World) (ad : Nat → Addr) (hk : Ks w ad) (hx : x < 18446744073709551616) (hv : Grw w v gs) (hl : gs.length ≤ 140737488355328) (hsz : ∀ g ∈ gs, g.1.length ≤ 140737488355328 ∧ ∀ r ∈ g.1, r.length ≤ 140737488355328) (hj : Sl 0 w vj junk) (hjl : junk.length ≤ 140737488355328) :
    Calls Tryz.prog 6 #[.int .u64 (x : Int), v, vj] w fun e w' => e = .returned (.bool true) ∧ Up w w' := by
  have haw := sawake_any w ad hk
  have HV : Hid (Ks w ad ∧ Grw w v gs ∧ gs.length ≤ 140737488355328 ∧ (∀ g ∈ gs, g.1.length ≤ 140737488355328 ∧ ∀ r ∈ g.1, r.length ≤ 140737488355328) ∧ x < 18446744073709551616) := ⟨hk, hv, hl, hsz, hx⟩
  obtain ⟨ao, cap, rfl⟩ := hv.slice
  obtain ⟨aj, cj, rfl⟩ := hj.slice
  obtain ⟨N, hN⟩ : ∃ N, gs.length = N := ⟨_, rfl⟩
  obtain ⟨J, hJ⟩ : ∃ J, junk.length = J := ⟨_, rfl⟩
  have hN0 : (0 : Int) ≤ (N : Int) := by omega
  have hNl : (N : Int) ≤ 140737488355328 := by omega
  have hJ0 : (0 : Int) ≤ (J : Int) := by omega
  have hJ9 : (J : Int) ≤ 140737488355328 := by omega
  have HN : Hid (gs.length = N) := hN
  have HJ : Hid (junk.length = J ∧ Sl 0 w (.slice aj J cj) junk) := ⟨hJ, by rw [← hJ]; exact hj⟩
  rw [hN] at HV ⊢
  rw [hJ] at ⊢
  clear hk hx hv hl hsz hN hj hjl hJ
  go_enter Tryz.func6, Tryz.ntmps6
  go_wp2_with fail
  refine haw.mono ?_
  rintro e w1 ⟨rfl, u1⟩
  clear haw
  have hhv := heavy2_any (.slice ao N cap) gs w1 (HV.out.2.1.up u1) (by rw [HN.out]; exact HV.out.2.2.1) HV.out.2.2.2.1
  go_wp2_with fail
  refine hhv.mono ?_
  rintro e w2 ⟨⟨r, rfl, hr⟩, hw2⟩
  obtain rfl : w1 = w2 := hw2.symm
  clear hhv
  cases r with
  | true =>
    go_wp2
    go_ret
    exact ⟨rfl, u1⟩
  | false =>
    have HF : Hid (wtG gs ≤ 4194304) := hr rfl
    clear hr
    by_cases hj1 : 4194304 < J
    · have g1 : decide ((4194304 : Int) < (J : Int)) = true := by simp; omega
      clear hj1
      go_wp2
      go_ret
      exact ⟨rfl, u1⟩
    · have g1 : decide ((4194304 : Int) < (J : Int)) = false := by simp; omega
      have HJ4 : Hid (J ≤ 4194304) := by show _ ≤ _; omega
      have hJ4 : (J : Int) ≤ 4194304 := by omega
      clear hj1 hJ9
      by_cases hx1 : x < 1
      · have g2 : decide ((x : Int) < 1) = true := by simp; omega
        clear hx1
        go_wp2
        go_ret
        exact ⟨rfl, u1⟩
      · by_cases hx2 : 2305843009213693952 < x
        · have e1 : decide ((x : Int) < 1) = false := by simp; omega
          have e2 : decide ((2305843009213693952 : Int) < (x : Int)) = true := by simp; omega
          clear hx2 hx1
          go_wp2
          go_ret
          exact ⟨rfl, u1⟩
        · have HX : Hid (1 ≤ x ∧ x ≤ 2305843009213693952) := ⟨by omega, by omega⟩
          have e2 : decide ((2305843009213693952 : Int) < (x : Int)) = false := by simp; omega
          have e3 : decide ((x : Int) < 1) = false := by simp; omega
          have hnew := New_any w1
          clear hx2 hx1
          go_wp2_with fail
          refine hnew.mono ?_
          rintro e w3 ⟨db, L3, rfl, d3, u3⟩
          clear hnew
          have HK : Hid (Ks w1 ad ∧ Up w w1) := ⟨HV.out.1.up u1, u1⟩
          have hcr := SegCreate_new w1 db L3 x w3 ad HK.out.1 u3 d3 HX.out.1 (by have := HX.out.2; omega)
          clear d3 u3 u1 e2 e3 g1
          go_wp2_with fail
          refine hcr.mono ?_
          rintro e w4 ⟨sb, L4, rfl, b4, d4, n4, g4, u4⟩
          clear hcr
          have H4 : Hid (BackS w w1 w4 db x gs 0 sb (.slice none 0 0) 0) := ⟨[], _, 2, 3, L4, [], rfl, ⟨⟨b4, d4, n4, g4, u4⟩, made_empty, rfl, rfl, trivial, AllR.nil _ _ _, (fun k hk => by cases hk), ⟨by omega, by omega, by omega, by simp [cntB]⟩⟩⟩
          clear b4 d4 n4 g4 u4
          go_wp2_with fail
          go_loopg [11, 10] N (fun g p q2 wr => ∃ (i : Nat) (va : Value) (nb : Nat), g = N - i ∧ p = .int .i64 (i : Int) ∧ va = q2 ∧ Hid (i ≤ N ∧ BackS w w1 wr db x gs i sb va nb))
          case atStart => exact ⟨0, _, 0, rfl, rfl, rfl, Nat.zero_le _, H4.out⟩
          case round =>
            clear H4
            obtain ⟨i, va, nb, rfl, rfl, rfl, HR⟩ := hrel
            by_cases hi : i < N
            · have hi1 : (i : Int) < (N : Int) := by omega
              have hi0 : (0 : Int) ≤ (i : Int) := by omega
              have HI : Hid (i < N) := hi
              obtain ⟨GS, F, ops, room, L, vs, hnb, hB⟩ := HR.out.2
              have HB : Hid (BackR w w1 wr db sb x va GS (wtG (gs.take i)) i F ops room L vs) := hB
              clear hnb
              have U0 : Up w wr := HK.out.2.trans hB.sg.up
              have hi2 : i < gs.length := by have := HN.out; omega
              have hwt : Hid (wtG (gs.take (i + 1)) = wtG (gs.take i) + (wtR (gs[i]'hi2).1 + 1) ∧ wtG (gs.take (i + 1)) ≤ 4194304) := ⟨wtG_take gs i hi2, Nat.le_trans (wtG_le gs (i + 1)) HF.out⟩
              obtain ⟨b, o, cap', vi, e, hc, hrw, -⟩ := HV.out.2.1.at i hi2
              obtain ⟨rfl, rfl⟩ : ao = some ⟨b, o, none⟩ ∧ cap = cap' := by simp only [Value.slice.injEq] at e; exact ⟨e.1, e.2.2⟩
              obtain ⟨Rs, hRs⟩ : ∃ Rs, (gs[i]'hi2).1 = Rs := ⟨_, rfl⟩
              rw [hRs] at hrw hwt
              have HRW : Hid (Rw w vi Rs) := hrw
              have HRN : Hid (8 * Rs.length ≤ 4194304 ∧ 8 * (cntB GS + Rs.length) ≤ 4194304) := by
                have h1 := (wtR_le Rs).1
                have h2 := hB.num.2.2.2
                have h3 := hwt.out
                exact ⟨by omega, by omega⟩
              have HC : Hid (∀ u, Up w u → u.cell? ⟨b, o + i * 2, none⟩ = some vi) := fun u hu => by rw [hu.cell (World.block_lt_of_cell? w _ hc)]; exact hc
              have k0 := HC.out wr U0
              have HNX : Hid (x + cntB GS ≤ 2305843009214476288) := by
                have h1 := HX.out
                have h2 := HRN.out
                show _ ≤ _
                omega
              by_cases hne : Rs = []
              · subst hne
                have hno := SegAppend_none w1 wr db sb (nameB x) (x + cntB GS) GS.length _ L vi hB.sg (HRW.out.up U0)
                obtain ⟨ai, ci, hvi, hci, -⟩ := hrw
                subst hvi
                clear hi e hc hRs U0 hB hi2 hci
                go_wp2_with fail
                refine hno.mono ?_
                rintro e w7 ⟨rfl, hw7⟩
                obtain rfl : wr = w7 := hw7.symm
                clear hno
                have hrow7 := HB.out.all.row
                have hsz7 : w1.heap.size ≤ wr.heap.size := HB.out.sg.up.size
                have hlen7 : vs.length + ([] : List Value).length ≤ 1000000000 := by
                  have h1 := HB.out.all.len
                  have h2 : GS.flatten.length = cntB GS := rfl
                  have h3 := HRN.out
                  simp only [List.length_nil]
                  omega
                go_wp2_with (at_builtin; refine wpList_appAny _ rfl (.tmp 60) (.tmp 65) rfl w1.heap.size va vs [] rfl ai ci ?hx hrow7 (fun _ => rfl) (fun _ _ j u h => by simp at h) (fun u h => by simp at h) hsz7 hlen7 ?_)
                case hx => rfl
                intro va8 w8 ho8 hg8 hm8
                have HB2 : Hid (BackR w w1 w8 db sb x va8 GS (wtG (gs.take (i + 1))) (i + 1) F ops room L vs) := by
                  have h := HB.out.row ho8 hg8 hm8
                  exact ⟨h.sg, h.fok, h.dat, h.bad, h.fit, h.all, h.apart, by obtain ⟨n1, n2, n3, n4⟩ := h.num; have := hwt.out.1; omega⟩
                clear ho8 hg8 hm8 hrow7 hsz7 hlen7 k0
                go_wp2_with fail
                go_roundg (N - (i + 1))
                case measure => have := HI.out; omega
                case rel => exact ⟨i + 1, va8, GS.length, rfl, by go_num, rfl, by have := HI.out; omega, GS, F, ops, room, L, vs, rfl, HB2.out⟩
              · obtain ⟨bb, oo, cc, us, hvi, hus, hcells, heach⟩ := hrw.values hne
                subst hvi
                obtain ⟨R, hR⟩ : ∃ R, Rs.length = R := ⟨_, rfl⟩
                have HRL : Hid (Rs.length = R) := hR
                rw [hR] at HC k0
                have HUS : Hid (us.length = Rs.length ∧ (∀ j u, us[j]? = some u → w.cell? ((⟨bb, oo, none⟩ : Addr).add j) = some u) ∧ (∀ j (h1 : j < us.length) (h2 : j < Rs.length), Sl 0 w us[j] Rs[j])) := ⟨hus, hcells, heach⟩
                rcases pkE_cases ad (x + cntB GS) Rs hne with ⟨hnum, hlg, hpe, hpr⟩ | ⟨a, hpe, hpr⟩
                · have hm := hB.fit.more hnum hlg
                  have hap := SegAppend_ok w1 wr db sb (nameB x) (x + cntB GS) GS.length F ops 0 (fun _ => none) 0 room L (.slice (some ⟨bb, oo, none⟩) Rs.length cc) Rs ad hB.sg HK.out.1 (HRW.out.up U0) hne (by have := HRN.out; omega) (by have := HNX.out; omega) hnum hlg (sg_goes _ _ _ _) hB.fok hB.num.1 hB.num.2.1 (by omega) (by have h1 := hB.num.2.2.1; have h2 := HI.out; have h3 := HF.out; have h4 := HN.out; have h5 := wtG_len gs; omega) (by
                    rw [hB.dat, pkB_length _ _ hB.fit, hm.2.2.2.1]
                    have h1 := HRN.out
                    have h2 := hB.fit.many
                    have h3 := cutsB_le Rs.length Rs
                    omega) (by have h1 := HRN.out; have h2 := hB.fit.many; omega) (by rw [nameB_length x (by have := HX.out; omega)]; omega) (fun k q h => by cases h)
                  have HM : Hid (NumOk (x + cntB GS) Rs.length ∧ anyLong Rs = false) := ⟨hnum, hlg⟩
                  rw [hR] at hap
                  have husne : us ≠ [] := by intro e; rw [e] at hus; simp at hus; exact hne (List.eq_nil_of_length_eq_zero hus.symm)
                  have husl : us.length = R := by rw [hus, hR]
                  clear hi e hc hrw hRs U0 hB hi2 hne hnum hlg hpe hpr hm hR hus hcells heach
                  go_wp2_with fail
                  refine hap.mono ?_
                  rintro e w7 ⟨L7, rfl, h7, hL7, t7⟩
                  clear hap
                  have U7 : Up w w7 := HK.out.2.trans h7.up
                  have c7 := HC.out w7 U7
                  have HA7 : Hid (AllR w w7 w1.heap.size va GS.flatten vs) := HB.out.all.kept (S := sb :: L) t7 (fun k hk hm => by
                    have := HB.out.apart k hk
                    rcases List.mem_cons.1 hm with r | r
                    · exact this.2 r
                    · exact this.1 r)
                  have H7 : Hid (SgAt w1 w7 db sb (nameB x) (x + cntB GS + Rs.length) (GS.length + (packB (x + cntB GS) Rs).length / 512) true false (sgD (nameB x) (F.add (packB (x + cntB GS) Rs)) (ops + 1) 0 (fun _ => none) 0 (room + 1)) L7 ∧ (∀ k ∈ L7, k ∈ L ∨ wr.heap.size ≤ k)) := ⟨by rw [HRL.out]; exact h7, hL7⟩
                  have hcell7 : ∀ j u, us[j]? = some u → w7.cell? ((⟨bb, oo, none⟩ : Addr).add j) = some u := fun j u hj => by
                    have := HUS.out.2.1 j u hj
                    rw [U7.cell (World.block_lt_of_cell? w _ this)]; exact this
                  have hone : ∀ u ∈ us, u.oneCell' = true := fun u hu => by
                    obtain ⟨j, hj, rfl⟩ := List.getElem_of_mem hu
                    exact sl_one (HUS.out.2.2 j hj (by have := HUS.out.1; omega))
                  have hrow7 := HA7.out.row
                  have hsz7 : w1.heap.size ≤ w7.heap.size := h7.up.size
                  have hlen7 : vs.length + us.length ≤ 1000000000 := by
                    have h1 := HB.out.all.len
                    have h2 : GS.flatten.length = cntB GS := rfl
                    have h3 := HRN.out
                    have h4 := HUS.out.1
                    omega
                  clear h7 hL7 t7 U7 k0
                  go_wp2_with (at_builtin; refine wpList_appVW _ rfl (.tmp 60) (.tmp 65) rfl w1.heap.size va vs us rfl ⟨bb, oo, none⟩ cc ?hx hrow7 hcell7 hone hsz7 hlen7 husne ?_)
                  case hx => rw [husl]; rfl
                  intro va8 w8 ho8 hg8 hm8
                  have HB2 : Hid (BackR w w1 w8 db sb x va8 (GS ++ cutsB Rs.length Rs) (wtG (gs.take (i + 1))) (i + 1) (F.add (packB (x + cntB GS) Rs)) (ops + 1) (room + 1) L7 (vs ++ us)) := by
                    show BackR _ _ _ _ _ _ _ _ _ _ _ _ _ _ _
                    rw [hwt.out.1]
                    exact HB.out.appended (by have := HX.out; omega) HM.out.1 HM.out.2 H7.out.1 H7.out.2 HA7.out ho8 hg8 hm8 HUS.out.1 HUS.out.2.2
                  clear ho8 hg8 hm8 hcell7 hone hrow7 hsz7 hlen7 husl husne c7
                  go_wp2_with fail
                  go_roundg (N - (i + 1))
                  case measure => have := HI.out; omega
                  case rel => exact ⟨i + 1, va8, _, rfl, by go_num, rfl, by have := HI.out; omega, _, _, _, _, _, _, rfl, HB2.out⟩
                · have hbd := SegAppend_bad w1 wr db sb (nameB x) (x + cntB GS) GS.length _ L (.slice (some ⟨bb, oo, none⟩) Rs.length cc) Rs ad a hB.sg HK.out.1 (HRW.out.up U0) hne (by have := HRN.out; omega) (by have := HNX.out; omega) hpe
                  rw [hR] at hbd
                  clear hi e hc hrw hRs U0 hB hi2 hne hpe hpr hR hus hcells heach
                  go_wp2_with fail
                  refine hbd.mono ?_
                  rintro e w7 ⟨rfl, u7⟩
                  clear hbd
                  have HB2 : Hid (BackR w w1 w7 db sb x va GS (wtG (gs.take (i + 1))) (i + 1) F ops room L vs) := HB.out.same u7 (by have := hwt.out.1; omega)
                  clear u7 k0
                  go_wp2_with fail
                  go_roundg (N - (i + 1))
                  case measure => have := HI.out; omega
                  case rel => exact ⟨i + 1, va, GS.length, rfl, by go_num, rfl, by have := HI.out; omega, GS, F, ops, room, L, vs, rfl, HB2.out⟩
            · have hi1 : ¬ (i : Int) < (N : Int) := by omega
              obtain ⟨GS, F, ops, room, L, vs, hnb, hB⟩ := HR.out.2
              have HNUM : Hid (8 * cntB GS ≤ 4194304 ∧ room ≤ 4194307 ∧ GS.length ≤ cntB GS ∧ (pkB x GS).length = 512 * GS.length) := by
                have h1 := hB.num
                have h2 := wtG_le gs i
                have h3 := HF.out
                have h4 := HN.out
                have h5 := wtG_len gs
                have h6 := HR.out.1
                exact ⟨by omega, by omega, hB.fit.many, pkB_length x GS hB.fit⟩
              have HB : Hid (BackR w w1 wr db sb x va GS (wtG (gs.take i)) i F ops room L vs) := hB
              obtain ⟨G, hG⟩ : ∃ G, GS.length = G := ⟨_, rfl⟩
              obtain ⟨NX, hNX⟩ : ∃ NX, x + cntB GS = NX := ⟨_, rfl⟩
              obtain ⟨O, hO⟩ : ∃ O, ops + 1 = O := ⟨_, rfl⟩
              obtain ⟨P, hP⟩ : ∃ P, room + 1 = P := ⟨_, rfl⟩
              have HG : Hid (GS.length = G ∧ x + cntB GS = NX ∧ ops + 1 = O ∧ room + 1 = P) := ⟨hG, hNX, hO, hP⟩
              have q1 := Blocks_any sb db (nameB x) (x + cntB GS) GS.length true false wr hB.sg.box
              rw [hG] at q1
              have hnm := Name_any x wr (by have := HX.out; omega) (HK.out.1.up hB.sg.up).tz
              clear hi hnb hB hG hNX hO hP
              go_wp2_with fail
              refine q1.mono ?_
              rintro e w5 ⟨rfl, hw5⟩
              obtain rfl : wr = w5 := hw5.symm
              clear q1
              go_wp2_with fail
              refine hnm.mono ?_
              rintro e w5 ⟨rfl, u5⟩
              clear hnm
              have hB5 := HB.out.up u5
              have U5 : Up w w5 := HK.out.2.trans hB5.sg.up
              have hap : Calls Tryz.prog 29 #[.pointer (some ⟨db, 0, none⟩), Sv (nameB x), .slice aj J cj] w5 fun e w' => e = .returned .nilIface ∧ OpDone w5 w1.heap.size db (sgD (nameB x) (F.add junk) O 0 (fun _ => none) 0 P) L w' := by
                have hs : Sl 0 w5 (.slice aj junk.length cj) junk := by rw [HJ.out.1]; exact HJ.out.2.up U5
                have h := Append_any w1 db (sgD (nameB x) F ops 0 (fun _ => none) 0 room) L w5 ad (nameB x) 0 F aj cj junk hB5.sg.dsk hB5.sg.up HK.out.1.er rfl (sgD_ok (nameB x) F hB5.fok ops 0 _ 0 room hB5.num.1 hB5.num.2.1 (by omega)) (by show room ≤ _; have := HNUM.out.2.1; omega) (sgD_seen _ _ _ _ _ _ _) rfl hB5.fok hs (fun hne k hk hm => by
                  have h2 : Sl 0 w (.slice aj junk.length cj) junk := by rw [HJ.out.1]; exact HJ.out.2
                  obtain ⟨b, o, c, e⟩ := h2.some hne
                  obtain ⟨ao', cap', e2, _, _, hx2⟩ := h2
                  obtain ⟨b', o', e3, _, ha⟩ := hx2 hne
                  simp only [Value.slice.injEq] at e2
                  obtain ⟨rfl, _, rfl⟩ := e2
                  subst e3
                  simp only [Value.ownBlock, Option.some.injEq] at hk
                  subst hk
                  have h3 := ha.lt hne
                  have h4 := hB5.sg.dsk.ge _ hm
                  have h5 := HK.out.2.size
                  omega) (by rw [HB.out.dat, HNUM.out.2.2.2]; have := HNUM.out; have := HJ.out.1; have := HJ4.out; unfold CB; omega) (by rw [nameB_length x (by have := HX.out; omega)]; unfold maxLen; omega) (fun k q h => by cases h)
                rw [sg_goes, sg_append _ _ _ _ _ _ _ _ (sg_goes _ _ _ _), HG.out.2.2.1, HG.out.2.2.2, HJ.out.1] at h
                exact h
              have HB5 : Hid (BackR w w1 w5 db sb x va GS (wtG (gs.take i)) i F ops room L vs) := hB5
              clear hB5 U5 u5
              go_wp2_with fail
              refine hap.mono ?_
              rintro e w6 ⟨rfl, L6, d6, l6, t6⟩
              clear hap
              obtain ⟨b6, a6, ap6, v6⟩ := HB5.out.junk HB5.out.sg.up.size d6 l6 t6
              have U6 : Up w w6 := HK.out.2.trans v6
              have q2 := Next_any sb db (nameB x) (x + cntB GS) GS.length true false w6 b6
              rw [HG.out.2.1] at q2
              obtain ⟨MR, MN, hres⟩ : ∃ MR MN, scanB (badOf []) (junk.length / 512) junk 0 NX = (MR, MN) := ⟨_, _, rfl⟩
              have HRES : Hid (scanB (badOf []) (junk.length / 512) junk 0 NX = (MR, MN) ∧ MR.length ≤ J ∧ 512 * MN ≤ J) := by
                have h := scan_few (badOf []) (junk.length / 512) junk 0 NX
                rw [hres] at h
                have h2 := HJ.out.1
                exact ⟨hres, by have := h.1; simp only at this; omega, by have := h.2.1; simp only at this; omega⟩
              have hsc := Scan_any 0 (.slice aj junk.length cj) (.slice none 0 0) junk [] NX w6 ad ((HK.out.1.up v6).tb) ((HK.out.1.up v6).gl) (by rw [HJ.out.1]; exact HJ.out.2.up U6) (SlI.nil _) (by have := HJ.out.1; have := HJ4.out; omega) (by simp) (by simp) (by have h1 := HG.out.2.1; have h2 := HX.out; have h3 := HNUM.out; omega)
              rw [hres] at hsc
              rw [HJ.out.1] at hsc
              have H6 : Hid (DiskAt w6 w1.heap.size db (sgD (nameB x) (F.add junk) O 0 (fun _ => none) 0 P) L6 ∧ AllR w w6 w1.heap.size va GS.flatten vs ∧ (∀ k, va.ownBlock = some k → k ∉ L6) ∧ Up w1 w6) := ⟨d6, a6, ap6, v6⟩
              clear d6 l6 t6 a6 ap6 v6 U6 b6 hres
              go_wp2_with fail
              refine q2.mono ?_
              rintro e w7 ⟨rfl, hw7⟩
              obtain rfl : w6 = w7 := hw7.symm
              clear q2
              go_wp2_with fail
              refine hsc.mono ?_
              rintro e w7 ⟨vm, vsm, rfl, r7, u7⟩
              clear hsc
              obtain ⟨am, cm, rfl, hn7, hc7⟩ := recs_cells r7
              obtain ⟨M2, hM2⟩ : ∃ M2, vsm.length = M2 := ⟨_, rfl⟩
              have HM2 : Hid (vsm.length = M2 ∧ MR.length = M2) := ⟨hM2, by rw [← r7.len, hM2]⟩
              have R7 : Hid (Recs w7 w6.heap.size (.slice am vsm.length cm) MR vsm) := r7
              have hone7 := r7.one
              have hrow7 : OwnV w7 w1.heap.size va vs := ownsRow_up H6.out.2.1.row u7
              have hsz7 : w1.heap.size ≤ w7.heap.size := (H6.out.2.2.2.trans u7).size
              have hlen7 : vs.length + vsm.length ≤ 1000000000 := by
                have h1 := H6.out.2.1.len
                have h2 : GS.flatten.length = cntB GS := rfl
                have h3 := HNUM.out
                have h4 := HRES.out.2.1
                have h5 := HM2.out
                have h6 := HJ4.out
                omega
              have HU7 : Hid (Up w6 w7) := u7
              rw [hM2]
              clear r7 u7 hM2
              go_wp2_with (at_builtin; refine wpList_appAny _ rfl (.tmp 82) (.tmp 83) rfl w1.heap.size va vs vsm rfl am cm ?hx hrow7 hn7 hc7 hone7 hsz7 hlen7 ?_)
              case hx => rw [HM2.out.1]; rfl
              intro va8 w8 ho8 hg8 hm8
              have t8 : Touch w7 w8 (ob va) := Touch.of_grown hg8 (fun k hk => mem_ob.2 hk)
              have V8 : Up w1 w8 := Touch.up_of (H6.out.2.2.2.trans HU7.out) t8 (fun k hk => (World.ownsRow.lt H6.out.2.1.row k (mem_ob.1 hk)).1)
              have A8 : AllR w8 w8 w1.heap.size va8 (GS.flatten ++ MR) (vs ++ vsm) := AllR.joined (w0 := w) ⟨hrow7, H6.out.2.1.len, H6.out.2.1.each⟩ R7.out ho8 hg8 (HK.out.2.trans V8)
              have d8 : DiskAt w8 w1.heap.size db (sgD (nameB x) (F.add junk) O 0 (fun _ => none) 0 P) L6 := (H6.out.1.up HU7.out).kept t8 (fun k hk hm => H6.out.2.2.1 k (mem_ob.1 hm) hk)
              have hdat : (F.add junk).seen.data = pkB x GS ++ junk := by rw [add_data, HB.out.dat]
              have hdl : (F.add junk).seen.data.length = 512 * G + J := by rw [hdat, List.length_append, HNUM.out.2.2.2, HG.out.1, HJ.out.1]
              obtain ⟨GB, hGB⟩ : ∃ GB, G + MN = GB := ⟨_, rfl⟩
              obtain ⟨TT, hTT⟩ : ∃ TT, (GS.flatten ++ MR).length = TT := ⟨_, rfl⟩
              have hTT2 : TT = cntB GS + M2 := by rw [← hTT, List.length_append, HM2.out.2]; rfl
              have hop := SegOpen_any w1 w8 db x (F.add junk) O 0 (fun _ => none) 0 P L6 ad HK.out.1 V8 d8 HX.out.1 (by have := HX.out; omega) (HB.out.fok.add _) (add_bad _ _ HB.out.bad) (by rw [hdl]; have := HNUM.out; have := HG.out.1; have := HJ4.out; omega) (GS.flatten ++ MR, GB) (by
                rw [hdat, scan_behind HB.out.fit, HG.out.2.1, HRES.out.1, HG.out.1, hGB]) (by show (GS.flatten ++ MR).length ≤ _; rw [hTT, hTT2]; have := HNUM.out; have := HRES.out.2.1; have := HM2.out.2; have := HJ4.out; omega) (by show GB ≤ _; have := HNUM.out; have := HG.out.1; have := HRES.out.2.2; have := HJ4.out; omega)
              have HA8 : Hid (AllR w8 w8 w1.heap.size va8 (GS.flatten ++ MR) (vs ++ vsm) ∧ DiskAt w8 w1.heap.size db (sgD (nameB x) (F.add junk) O 0 (fun _ => none) 0 P) L6 ∧ Up w1 w8) := ⟨A8, d8, V8⟩
              have HD : Hid ((F.add junk).seen.data.length = 512 * G + J ∧ G + MN = GB ∧ (GS.flatten ++ MR).length = TT ∧ TT = cntB GS + M2) := ⟨hdl, hGB, hTT, hTT2⟩
              obtain ⟨a8, c8, hva8⟩ : ∃ a8 c8, va8 = .slice a8 TT c8 := by
                obtain ⟨a', c', e⟩ := ho8.len
                refine ⟨a', c', ?_⟩
                have h1 := A8.len
                rw [hTT] at h1
                rw [e, h1]
              subst hva8
              clear ho8 hg8 hm8 t8 V8 A8 d8 hdat hdl hGB hTT hTT2 hrow7 hn7 hc7 hone7 hsz7 hlen7
              go_wp2_with fail
              refine hop.mono ?_
              rintro e w9 ⟨sb9, v9, vs9, B9, rfl, b9, r9, u9, n9, -⟩
              clear hop
              have hls := lists_any v9 (.slice a8 TT c8) (GS.flatten ++ MR) w9 r9.rw ((HA8.out.1.rw (Up.refl _)).up u9) (by rw [HD.out.2.2.1, HD.out.2.2.2]; have := HNUM.out; have := HRES.out.2.1; have := HM2.out.2; have := HJ4.out; omega)
              obtain ⟨WH, hWH⟩ : ∃ WH, decide (512 * MN = J) = WH := ⟨_, rfl⟩
              obtain ⟨N9, hN9⟩ : ∃ N9, x + TT = N9 := ⟨_, rfl⟩
              have hS9 : SgAt w1 w9 db sb9 (nameB x) N9 GB WH false (sgD (nameB x) (F.add junk) O 0 (fun _ => none) 0 P) L6 := by
                refine ⟨?_, HA8.out.2.1.up u9, fun hm => by have := HA8.out.2.1.lt _ hm; omega, Nat.le_trans HA8.out.2.2.size n9, HA8.out.2.2.trans u9⟩
                have h := b9
                have e1 : decide (512 * GB = (F.add junk).seen.data.length) = WH := by
                  rw [← hWH, HD.out.1, ← HD.out.2.1]
                  simp only [decide_eq_decide]
                  omega
                rw [e1, HD.out.2.2.1, hN9] at h
                exact h
              have HS9 : Hid (SgAt w1 w9 db sb9 (nameB x) N9 GB WH false (sgD (nameB x) (F.add junk) O 0 (fun _ => none) 0 P) L6) := hS9
              have HN9 : Hid (x + TT = N9 ∧ N9 ≤ 2305843009220000000 ∧ decide (512 * MN = J) = WH) := ⟨hN9, by have h1 := HX.out; have h2 := HD.out.2.2.2; have h3 := HNUM.out; have h4 := HRES.out.2.1; have h5 := HM2.out.2; have h6 := HJ4.out; omega, hWH⟩
              obtain ⟨Z2, hZ2⟩ : ∃ Z2, 512 * MN = Z2 := ⟨_, rfl⟩
              have m1 : (MN : Int) * 512 = (Z2 : Int) := by omega
              have m2 : (0 : Int) ≤ (MN : Int) := by omega
              have m3 : (MN : Int) ≤ 8192 := by have := HRES.out.2.2; have := HJ4.out; omega
              have m4 : (G : Int) + (MN : Int) = (GB : Int) := by have := HD.out.2.1; omega
              have m5 : (0 : Int) ≤ (G : Int) := by omega
              have m6 : (G : Int) ≤ 524288 := by have := HNUM.out; have := HG.out.1; omega
              have m7 : (GB : Int) ≤ 600000 := by omega
              have m8 : (Z2 : Int) ≤ 4194304 := by omega
              have hWZ : ((J : Int) == (Z2 : Int)) = WH := by
                rw [← hWH, hZ2, Bool.eq_iff_iff, beq_iff_eq, decide_eq_true_iff]
                constructor
                · intro h; omega
                · intro h; omega
              clear b9 r9 n9 u9 hS9 hWH hN9 hZ2
              go_wp2_with fail
              refine hls.mono ?_
              rintro e w10 ⟨rfl, nd, hw10⟩
              clear hls
              have u10 : Up w9 w10 := by rw [hw10]; exact up_drewN _ _
              have HS10 : Hid (SgAt w1 w10 db sb9 (nameB x) N9 GB WH false (sgD (nameB x) (F.add junk) O 0 (fun _ => none) 0 P) L6) := HS9.out.next u10
              have q3 := Blocks_any sb9 db (nameB x) N9 GB WH false w10 HS10.out.box
              have q4 := Whole_any sb9 db (nameB x) N9 GB WH false w10 HS10.out.box
              have q5 := Ops_any w1.heap.size db _ L6 w10 HS10.out.dsk
              have q5 : Calls Tryz.prog 31 #[.pointer (some ⟨db, 0, none⟩)] w10 fun e w' => e = .returned (.int .i64 (O : Int)) ∧ w' = w10 := q5
              clear hw10 u10
              go_wp2_with fail
              refine q3.mono ?_
              rintro e w11 ⟨rfl, hw11⟩
              obtain rfl : w10 = w11 := hw11.symm
              clear q3
              go_wp2_with fail
              refine q4.mono ?_
              rintro e w11 ⟨rfl, hw11⟩
              obtain rfl : w10 = w11 := hw11.symm
              cases WH with
              | true =>
                go_wp2_with fail
                refine q5.mono ?_
                rintro e w11 ⟨rfl, hw11⟩
                obtain rfl : w10 = w11 := hw11.symm
                go_wp2_with fail
                refine q4.mono ?_
                rintro e w11 ⟨rfl, hw11⟩
                obtain rfl : w10 = w11 := hw11.symm
                clear q4
                have q6 := SegCut_whole w1 w10 db sb9 (nameB x) N9 GB _ L6 HS10.out
                go_wp2_with fail
                refine q6.mono ?_
                rintro e w11 ⟨rfl, hw11⟩
                obtain rfl : w10 = w11 := hw11.symm
                clear q6
                go_wp2_with fail
                refine q5.mono ?_
                rintro e w11 ⟨rfl, hw11⟩
                obtain rfl : w10 = w11 := hw11.symm
                clear q5
                go_wp2
                go_ret
                exact ⟨rfl, HK.out.2.trans HS10.out.up⟩
              | false =>
                go_wp2_with fail
                refine q5.mono ?_
                rintro e w11 ⟨rfl, hw11⟩
                obtain rfl : w10 = w11 := hw11.symm
                go_wp2_with fail
                refine q4.mono ?_
                rintro e w11 ⟨rfl, hw11⟩
                obtain rfl : w10 = w11 := hw11.symm
                clear q4 q5
                go_wp2_with fail
                obtain ⟨aS, haS⟩ : ∃ aS, ad 4 = aS := ⟨_, rfl⟩
                have HE : Hid (∀ u, Up w1 u → u.cell? ⟨4, 0, none⟩ = some (E aS)) := fun u uu => by rw [← haS]; exact ((HK.out.1.up uu).er _ segSick).1.cell
                clear haS
                have hs : w10.drew.cell? ⟨4, 0, none⟩ = some (E aS) := HE.out _ (HS10.out.up.trans (Up.drew w10))
                refine wp_region_held_drew (S := fun u => u.cell? ⟨4, 0, none⟩ = some (E aS)) (by kernel_rfl) hs (fun hs0 => ?_)
                obtain ⟨wd, hwd⟩ : ∃ wd, w10.drew = wd := ⟨_, rfl⟩
                have HSd : Hid (SgAt w1 wd db sb9 (nameB x) N9 GB false false (sgD (nameB x) (F.add junk) O 0 (fun _ => none) 0 P) L6) := by rw [← hwd]; exact HS10.out.next (Up.drew w10)
                rw [hwd] at hs hs0 ⊢
                clear hwd
                have kc := Lib.run_convert_bytes_const (P := Tryz.prog) wd 60 5 #[.int .u8 120] 1 1 Tryz.underlying60 Tryz.underlying5
                refine take_to (some 131) (i := 0) (v := .pointer (some ⟨sb9, 0, none⟩)) rfl rfl (by kernel_rfl) (by kernel_rfl) (by kernel_rfl) (fun _ _ _ h => h) (Or.inl ⟨by kernel_rfl, by intro u hSu; go_simp⟩) hs ?_
                simp only [Act.put, List.setIfInBounds_toArray, List.set_cons_zero, List.set_cons_succ]
                refine take_to (some 136) (i := 5) (v := E aS) rfl rfl (by kernel_rfl) (by kernel_rfl) (by kernel_rfl) (fun _ _ _ h => h) (Or.inl ⟨by kernel_rfl, by intro u hSu; have q0 := hSu; go_simp⟩) hs ?_
                simp only [Act.put, List.setIfInBounds_toArray, List.set_cons_zero, List.set_cons_succ]
                refine wpAnyH_ready (rs := [1]) (by kernel_rfl) (by simp) ?_
                refine AllReadyH.cons rfl (fun K hK => ?_) AllReadyH.nil
                go_simp
                refine hK.out _ _ (HE.out _ (HSd.out.up.trans (Up.alloc _ _))) (fun _ => ?_)
                clear hK K
                refine wpAnyH_ready (rs := [2]) (by kernel_rfl) (by simp) ?_
                refine AllReadyH.cons rfl (fun K hK => ?_) AllReadyH.nil
                go_simp
                clear kc
                obtain ⟨we, hwe⟩ : ∃ we, wd.alloc (.cells #[.int .u8 120] 5 (1, 2)) = we := ⟨_, rfl⟩
                have ue : Up wd we := by rw [← hwe]; exact Up.alloc _ _
                rw [hwe]
                clear hwe
                refine hK.out _ _ (HE.out _ (HSd.out.up.trans ue)) (fun _ => ?_)
                clear hK K
                refine wpAnyH_ready (rs := [3]) (by kernel_rfl) (by simp) ?_
                refine AllReadyH.cons rfl (fun K hK => ?_) AllReadyH.nil
                go_simp
                obtain ⟨wf, hwf⟩ : ∃ wf, we.alloc (.cells #[.slice (some ⟨wd.heap.size, 0, none⟩) 1 1] 60) = wf := ⟨_, rfl⟩
                have uf : Up wd wf := ue.trans (by rw [← hwf]; exact Up.alloc _ _)
                rw [hwf]
                clear hwf
                refine hK.out _ _ (HE.out _ (HSd.out.up.trans uf)) (fun _ => ?_)
                clear hK K
                have HSf : Hid (SgAt w1 wf db sb9 (nameB x) N9 GB false false (sgD (nameB x) (F.add junk) O 0 (fun _ => none) 0 P) L6) := HSd.out.next uf
                have hsf : wf.cell? ⟨4, 0, none⟩ = some (E aS) := HE.out _ HSf.out.up
                refine wpAnyH_ready (rs := [4]) (by kernel_rfl) (by simp) ?_
                refine AllReadyH.cons rfl (fun K hK => ?_) AllReadyH.nil
                go_simp
                refine (SegAppend_rough w1 wf db sb9 (nameB x) N9 GB _ L6 _ 1 1 aS HSf.out hsf).mono ?_
                rintro e w12 ⟨rfl, hw12⟩
                obtain rfl : wf = w12 := hw12.symm
                refine hK.out _ _ hsf (fun _ => ?_)
                clear hK K
                refine take_to (some 137) (i := 6) (v := .bool false) rfl rfl (by kernel_rfl) (by kernel_rfl) (by kernel_rfl) (fun _ _ _ h => h) (Or.inl ⟨by kernel_rfl, by intro u hSu; have q0 := neq_same aS u; go_simp⟩) hsf ?_
                simp only [Act.put, List.setIfInBounds_toArray, List.set_cons_zero, List.set_cons_succ]
                refine take_to (some 138) (i := 7) (v := .bool false) rfl rfl (by kernel_rfl) (by kernel_rfl) (by kernel_rfl) (fun _ _ _ h => h) (Or.inl ⟨by kernel_rfl, by intro u hSu; go_simp⟩) hsf ?_
                simp only [Act.put, List.setIfInBounds_toArray, List.set_cons_zero, List.set_cons_succ]
                refine take_to (some 139) (i := 8) (v := .pointer (some ⟨db, 0, none⟩)) rfl rfl (by kernel_rfl) (by kernel_rfl) (by kernel_rfl) (fun _ _ _ h => h) (Or.inl ⟨by kernel_rfl, by intro u hSu; go_simp⟩) hsf ?_
                simp only [Act.put, List.setIfInBounds_toArray, List.set_cons_zero, List.set_cons_succ]
                refine take_to (some 141) (i := 10) (v := .int .i64 (O : Int)) rfl rfl (by kernel_rfl) (by kernel_rfl) (by kernel_rfl) (fun _ _ _ h => h) (Or.inl ⟨by kernel_rfl, by intro u hSu; go_simp⟩) hsf ?_
                simp only [Act.put, List.setIfInBounds_toArray, List.set_cons_zero, List.set_cons_succ]
                have q50 : Calls Tryz.prog 31 #[.pointer (some ⟨db, 0, none⟩)] wf fun e w' => e = .returned (.int .i64 (O : Int)) ∧ w' = wf := Ops_any w1.heap.size db _ L6 wf HSf.out.dsk
                refine wpAnyH_ready (rs := [9]) (by kernel_rfl) (by simp) ?_
                refine AllReadyH.cons rfl (fun K hK => ?_) AllReadyH.nil
                go_simp
                refine q50.mono ?_
                rintro e w12 ⟨rfl, hw12⟩
                obtain rfl : wf = w12 := hw12.symm
                refine hK.out _ _ hsf (fun _ => ?_)
                clear hK K
                refine take_to (some 142) (i := 11) (v := .bool false) rfl rfl (by kernel_rfl) (by kernel_rfl) (by kernel_rfl) (fun _ _ _ h => h) (Or.inl ⟨by kernel_rfl, by intro u hSu; go_simp⟩) hsf ?_
                simp only [Act.put, List.setIfInBounds_toArray, List.set_cons_zero, List.set_cons_succ]
                refine take_to (some 143) (i := 12) (v := .bool false) rfl rfl (by kernel_rfl) (by kernel_rfl) (by kernel_rfl) (fun _ _ _ h => h) (Or.inl ⟨by kernel_rfl, by intro u hSu; go_simp⟩) hsf ?_
                simp only [Act.put, List.setIfInBounds_toArray, List.set_cons_zero, List.set_cons_succ]
                refine take_to (some 144) (i := 13) (v := .bool false) rfl rfl (by kernel_rfl) (by kernel_rfl) (by kernel_rfl) (fun _ _ _ h => h) (Or.inl ⟨by kernel_rfl, by intro u hSu; go_simp⟩) hsf ?_
                simp only [Act.put, List.setIfInBounds_toArray, List.set_cons_zero, List.set_cons_succ]
                refine take_to (some 145) (i := 14) (v := .pointer (some ⟨sb9, 0, none⟩)) rfl rfl (by kernel_rfl) (by kernel_rfl) (by kernel_rfl) (fun _ _ _ h => h) (Or.inl ⟨by kernel_rfl, by intro u hSu; go_simp⟩) hsf ?_
                simp only [Act.put, List.setIfInBounds_toArray, List.set_cons_zero, List.set_cons_succ]
                refine wpAnyH_ready (rs := [15]) (by kernel_rfl) (by simp) ?_
                refine AllReadyH.cons rfl (fun K hK => ?_) AllReadyH.nil
                go_simp
                have hcut := SegCut_ok w1 wf db sb9 (nameB x) N9 GB (F.add junk) O 0 (fun _ => none) 0 P L6 ad HSf.out HK.out.1 (sg_goes _ _ _ _) (HB.out.fok.add _) (by have h1 := HG.out; omega) (by have h1 := HG.out; have h2 := HB.out.num.2.1; omega) (by omega) (by have h1 := HG.out; have h2 := HNUM.out.2.1; omega) (by rw [HD.out.1]; have h1 := HNUM.out; have h2 := HG.out.1; have h3 := HJ4.out; omega) (by rw [HD.out.1, ← HD.out.2.1]; have := HRES.out.2.2; omega) (by have h1 := HNUM.out; have h2 := HG.out.1; have h3 := HJ4.out; have h4 := HRES.out.2.2; have h5 := HD.out.2.1; omega) (by rw [nameB_length x (by have := HX.out; omega)]; omega)
                refine hcut.mono ?_
                rintro e w12 ⟨L12, rfl, s12, l12, t12⟩
                have HS12 : Hid (SgAt w1 w12 db sb9 (nameB x) N9 GB true false (sgD (nameB x) ((F.add junk).cut (512 * GB)) (O + 1) 0 (fun _ => none) 0 (P + 1)) L12) := s12
                have hs12 : w12.cell? ⟨4, 0, none⟩ = some (E aS) := HE.out _ s12.up
                refine hK.out _ _ hs12 (fun _ => ?_)
                clear hK K hcut s12 l12 t12
                have q5 : Calls Tryz.prog 31 #[.pointer (some ⟨db, 0, none⟩)] w12 fun e w' => e = .returned (.int .i64 ((O : Int) + 1)) ∧ w' = w12 := Ops_any w1.heap.size db _ L12 w12 HS12.out.dsk
                have o1 : (0 : Int) ≤ (O : Int) := by omega
                have o3 : IntKind.i64.wrap ((O : Int) + 1) = (O : Int) + 1 := by have h1 := HG.out; have h2 := HB.out.num; have h3 := HNUM.out.2.1; rw [IntKind.wrap_i64]; omega
                have o2 : (O : Int) ≤ 5000000 := by have h1 := HG.out; have h2 := HB.out.num; have h3 := HNUM.out.2.1; omega
                refine take_to (some 147) (i := 16) (v := .bool false) rfl rfl (by kernel_rfl) (by kernel_rfl) (by kernel_rfl) (fun _ _ _ h => h) (Or.inl ⟨by kernel_rfl, by intro u hSu; go_simp⟩) hs12 ?_
                simp only [Act.put, List.setIfInBounds_toArray, List.set_cons_zero, List.set_cons_succ]
                refine take_to (some 148) (i := 17) (v := .bool false) rfl rfl (by kernel_rfl) (by kernel_rfl) (by kernel_rfl) (fun _ _ _ h => h) (Or.inl ⟨by kernel_rfl, by intro u hSu; go_simp⟩) hs12 ?_
                simp only [Act.put, List.setIfInBounds_toArray, List.set_cons_zero, List.set_cons_succ]
                refine take_to (some 149) (i := 18) (v := .bool false) rfl rfl (by kernel_rfl) (by kernel_rfl) (by kernel_rfl) (fun _ _ _ h => h) (Or.inl ⟨by kernel_rfl, by intro u hSu; go_simp⟩) hs12 ?_
                simp only [Act.put, List.setIfInBounds_toArray, List.set_cons_zero, List.set_cons_succ]
                refine take_to (some 150) (i := 19) (v := .pointer (some ⟨db, 0, none⟩)) rfl rfl (by kernel_rfl) (by kernel_rfl) (by kernel_rfl) (fun _ _ _ h => h) (Or.inl ⟨by kernel_rfl, by intro u hSu; go_simp⟩) hs12 ?_
                simp only [Act.put, List.setIfInBounds_toArray, List.set_cons_zero, List.set_cons_succ]
                refine take_to (some 152) (i := 21) (v := .int .i64 (O : Int)) rfl rfl (by kernel_rfl) (by kernel_rfl) (by kernel_rfl) (fun _ _ _ h => h) (Or.inl ⟨by kernel_rfl, by intro u hSu; go_simp⟩) hs12 ?_
                simp only [Act.put, List.setIfInBounds_toArray, List.set_cons_zero, List.set_cons_succ]
                refine take_to (some 153) (i := 22) (v := .int .i64 ((O : Int) + 1)) rfl rfl (by kernel_rfl) (by kernel_rfl) (by kernel_rfl) (fun _ _ _ h => h) (Or.inl ⟨by kernel_rfl, by intro u hSu; have q0 := o3; go_simp⟩) hs12 ?_
                simp only [Act.put, List.setIfInBounds_toArray, List.set_cons_zero, List.set_cons_succ]
                refine wpAnyH_ready (rs := [20]) (by kernel_rfl) (by simp) ?_
                refine AllReadyH.cons rfl (fun K hK => ?_) AllReadyH.nil
                go_simp
                refine q5.mono ?_
                rintro e w13 ⟨rfl, hw13⟩
                obtain rfl : w12 = w13 := hw13.symm
                refine hK.out _ _ hs12 (fun _ => ?_)
                clear hK K
                refine take_to (some 154) (i := 23) (v := .bool false) rfl rfl (by kernel_rfl) (by kernel_rfl) (by kernel_rfl) (fun _ _ _ h => h) (Or.inl ⟨by kernel_rfl, by intro u hSu; go_simp⟩) hs12 ?_
                simp only [Act.put, List.setIfInBounds_toArray, List.set_cons_zero, List.set_cons_succ]
                refine take_to (some 155) (i := 24) (v := .bool false) rfl rfl (by kernel_rfl) (by kernel_rfl) (by kernel_rfl) (fun _ _ _ h => h) (Or.inl ⟨by kernel_rfl, by intro u hSu; go_simp⟩) hs12 ?_
                simp only [Act.put, List.setIfInBounds_toArray, List.set_cons_zero, List.set_cons_succ]
                refine take_to (some 156) (i := 25) (v := .bool false) rfl rfl (by kernel_rfl) (by kernel_rfl) (by kernel_rfl) (fun _ _ _ h => h) (Or.inl ⟨by kernel_rfl, by intro u hSu; go_simp⟩) hs12 ?_
                simp only [Act.put, List.setIfInBounds_toArray, List.set_cons_zero, List.set_cons_succ]
                refine take_to (some 157) (i := 26) (v := .pointer (some ⟨sb9, 0, none⟩)) rfl rfl (by kernel_rfl) (by kernel_rfl) (by kernel_rfl) (fun _ _ _ h => h) (Or.inl ⟨by kernel_rfl, by intro u hSu; go_simp⟩) hs12 ?_
                simp only [Act.put, List.setIfInBounds_toArray, List.set_cons_zero, List.set_cons_succ]
                refine wpAnyH_ready (rs := [27]) (by kernel_rfl) (by simp) ?_
                refine AllReadyH.cons rfl (fun K hK => ?_) AllReadyH.nil
                go_simp
                refine (Whole_any sb9 db (nameB x) N9 GB true false w12 HS12.out.box).mono ?_
                rintro e w13 ⟨rfl, hw13⟩
                obtain rfl : w12 = w13 := hw13.symm
                refine hK.out _ _ hs12 (fun _ => ?_)
                clear hK K
                refine take_to (some 159) (i := 28) (v := .bool false) rfl rfl (by kernel_rfl) (by kernel_rfl) (by kernel_rfl) (fun _ _ _ h => h) (Or.inl ⟨by kernel_rfl, by intro u hSu; go_simp⟩) hs12 ?_
                simp only [Act.put, List.setIfInBounds_toArray, List.set_cons_zero, List.set_cons_succ]
                refine take_to (some 160) (i := 29) (v := .bool false) rfl rfl (by kernel_rfl) (by kernel_rfl) (by kernel_rfl) (fun _ _ _ h => h) (Or.inl ⟨by kernel_rfl, by intro u hSu; go_simp⟩) hs12 ?_
                simp only [Act.put, List.setIfInBounds_toArray, List.set_cons_zero, List.set_cons_succ]
                refine take_to (some 161) (i := 30) (v := .bool false) rfl rfl (by kernel_rfl) (by kernel_rfl) (by kernel_rfl) (fun _ _ _ h => h) (Or.inl ⟨by kernel_rfl, by intro u hSu; go_simp⟩) hs12 ?_
                simp only [Act.put, List.setIfInBounds_toArray, List.set_cons_zero, List.set_cons_succ]
                refine take_to (some 162) (i := 31) (v := .pointer (some ⟨sb9, 0, none⟩)) rfl rfl (by kernel_rfl) (by kernel_rfl) (by kernel_rfl) (fun _ _ _ h => h) (Or.inl ⟨by kernel_rfl, by intro u hSu; go_simp⟩) hs12 ?_
                simp only [Act.put, List.setIfInBounds_toArray, List.set_cons_zero, List.set_cons_succ]
                refine wpAnyH_ready (rs := [32]) (by kernel_rfl) (by simp) ?_
                refine AllReadyH.cons rfl (fun K hK => ?_) AllReadyH.nil
                go_simp
                refine (SegCut_whole w1 w12 db sb9 (nameB x) N9 GB _ L12 HS12.out).mono ?_
                rintro e w13 ⟨rfl, hw13⟩
                obtain rfl : w12 = w13 := hw13.symm
                refine hK.out _ _ hs12 (fun _ => ?_)
                clear hK K
                refine take_to (some 164) (i := 33) (v := .bool false) rfl rfl (by kernel_rfl) (by kernel_rfl) (by kernel_rfl) (fun _ _ _ h => h) (Or.inl ⟨by kernel_rfl, by intro u hSu; go_simp⟩) hs12 ?_
                simp only [Act.put, List.setIfInBounds_toArray, List.set_cons_zero, List.set_cons_succ]
                refine take_to (some 165) (i := 34) (v := .bool false) rfl rfl (by kernel_rfl) (by kernel_rfl) (by kernel_rfl) (fun _ _ _ h => h) (Or.inl ⟨by kernel_rfl, by intro u hSu; go_simp⟩) hs12 ?_
                simp only [Act.put, List.setIfInBounds_toArray, List.set_cons_zero, List.set_cons_succ]
                refine take_to (some 166) (i := 35) (v := .bool false) rfl rfl (by kernel_rfl) (by kernel_rfl) (by kernel_rfl) (fun _ _ _ h => h) (Or.inl ⟨by kernel_rfl, by intro u hSu; go_simp⟩) hs12 ?_
                simp only [Act.put, List.setIfInBounds_toArray, List.set_cons_zero, List.set_cons_succ]
                refine take_to (some 167) (i := 36) (v := .pointer (some ⟨db, 0, none⟩)) rfl rfl (by kernel_rfl) (by kernel_rfl) (by kernel_rfl) (fun _ _ _ h => h) (Or.inl ⟨by kernel_rfl, by intro u hSu; go_simp⟩) hs12 ?_
                simp only [Act.put, List.setIfInBounds_toArray, List.set_cons_zero, List.set_cons_succ]
                refine take_to (some 169) (i := 38) (v := .int .i64 (O : Int)) rfl rfl (by kernel_rfl) (by kernel_rfl) (by kernel_rfl) (fun _ _ _ h => h) (Or.inl ⟨by kernel_rfl, by intro u hSu; go_simp⟩) hs12 ?_
                simp only [Act.put, List.setIfInBounds_toArray, List.set_cons_zero, List.set_cons_succ]
                refine take_to (some 170) (i := 39) (v := .int .i64 ((O : Int) + 1)) rfl rfl (by kernel_rfl) (by kernel_rfl) (by kernel_rfl) (fun _ _ _ h => h) (Or.inl ⟨by kernel_rfl, by intro u hSu; have q0 := o3; go_simp⟩) hs12 ?_
                simp only [Act.put, List.setIfInBounds_toArray, List.set_cons_zero, List.set_cons_succ]
                refine wpAnyH_ready (rs := [37]) (by kernel_rfl) (by simp) ?_
                refine AllReadyH.cons rfl (fun K hK => ?_) AllReadyH.nil
                go_simp
                refine q5.mono ?_
                rintro e w13 ⟨rfl, hw13⟩
                obtain rfl : w12 = w13 := hw13.symm
                refine hK.out _ _ hs12 (fun _ => ?_)
                clear hK K
                refine take_to (some 171) (i := 40) (v := .bool false) rfl rfl (by kernel_rfl) (by kernel_rfl) (by kernel_rfl) (fun _ _ _ h => h) (Or.inl ⟨by kernel_rfl, by intro u hSu; go_simp⟩) hs12 ?_
                simp only [Act.put, List.setIfInBounds_toArray, List.set_cons_zero, List.set_cons_succ]
                refine take_to (some 172) (i := 41) (v := .bool false) rfl rfl (by kernel_rfl) (by kernel_rfl) (by kernel_rfl) (fun _ _ _ h => h) (Or.inl ⟨by kernel_rfl, by intro u hSu; go_simp⟩) hs12 ?_
                simp only [Act.put, List.setIfInBounds_toArray, List.set_cons_zero, List.set_cons_succ]
                refine wpAnyH_done (by kernel_rfl) ?_ _
                have hnm := Name_any x w12 (by have := HX.out; omega) (HK.out.1.up HS12.out.up).tz
                clear hs hs0 hsf hs12 uf ue q5
                go_wp2_with fail
                refine hnm.mono ?_
                rintro e w20 ⟨rfl, u20⟩
                clear hnm
                obtain ⟨Z9, hZ9⟩ : ∃ Z9, 512 * GB = Z9 := ⟨_, rfl⟩
                have HC9 : Hid (((F.add junk).cut (512 * GB)).seen.data.length = Z9 ∧ ((F.add junk).cut (512 * GB)).Ok ∧ 512 * GB = Z9) := by
                  have hle : 512 * GB ≤ (F.add junk).seen.data.length := by rw [HD.out.1, ← HD.out.2.1]; have := HRES.out.2.2; omega
                  exact ⟨by rw [cut_data _ _ hle, hZ9], (HB.out.fok.add _).cut _ (by omega) hle, hZ9⟩
                have HS20 : Hid (SgAt w1 w20 db sb9 (nameB x) N9 GB true false (sgD (nameB x) ((F.add junk).cut (512 * GB)) (O + 1) 0 (fun _ => none) 0 (P + 1)) L12) := HS12.out.next u20
                have hrd := Read_any w1.heap.size db _ L12 w20 (nameB x) 0 ((F.add junk).cut (512 * GB)) HS20.out.dsk rfl (sgD_seen _ _ _ _ _ _ _) rfl HC9.out.2.1 (by rw [HC9.out.1]; unfold CB; omega) (by rw [nameB_length x (by have := HX.out; omega)]; unfold maxLen; omega)
                clear u20
                go_wp2_with fail
                refine hrd.mono ?_
                rintro e w21 ⟨vd, vb, rfl, hc21⟩
                clear hrd
                have HS21 : Hid (SgAt w1 w21 db sb9 (nameB x) N9 GB true false (sgD (nameB x) ((F.add junk).cut (512 * GB)) (O + 1) 0 (fun _ => none) 0 (P + 1)) L12) := HS20.out.next hc21.up
                obtain ⟨pd, qd, rfl⟩ := hc21.dat.slice
                obtain ⟨pb, qb, rfl⟩ := hc21.bad.slice
                rw [HC9.out.1]
                have z1 : (GB : Int) * 512 = (Z9 : Int) := by omega
                have z2 : (0 : Int) ≤ (GB : Int) := by omega
                have z3 : (Z9 : Int) ≤ 400000000 := by omega
                have z4 : (0 : Int) ≤ (Z9 : Int) := by omega
                have q3 := Blocks_any sb9 db (nameB x) N9 GB true false w21 HS21.out.box
                have kc1 := fun (C : Array Value) (n c : Nat) => Lib.run_convert_bytes_const (P := Tryz.prog) w21 60 5 C n c Tryz.underlying60 Tryz.underlying5
                clear hc21 hZ9
                go_wp2_with fail
                refine q3.mono ?_
                rintro e w22 ⟨rfl, hw22⟩
                obtain rfl : w21 = w22 := hw22.symm
                clear q3
                go_wp2_with fail
                clear kc1
                obtain ⟨wa, hwa⟩ : ∃ x, w21.alloc (.cells #[.int .u8 120] 5 (1, 2)) = x := ⟨_, rfl⟩
                have a1 : Up w21 wa := hwa ▸ Up.alloc _ _
                have hza : wa.heap.size = w21.heap.size + 1 := by rw [← hwa]; simp
                have sa : Sl w21.heap.size wa (.slice (some ⟨w21.heap.size, 0, none⟩) 1 1) [120] := hwa ▸ sl_built w21 [120] 5 (1, 2)
                rw [hwa]
                obtain ⟨wc, hwc⟩ : ∃ x, wa.alloc (.cells #[.slice (some ⟨w21.heap.size, 0, none⟩) 1 1] 60) = x := ⟨_, rfl⟩
                have a3 : Up wa wc := hwc ▸ Up.alloc _ _
                have hn := heap_alloc_new wa (.cells #[.slice (some ⟨w21.heap.size, 0, none⟩) 1 1] 60)
                rw [hwc, hza] at hn
                rw [hwc]
                have s5 := (sa.mono (Nat.zero_le _)).up a3
                have hrw : Rw wc (.slice (some ⟨w21.heap.size + 1, 0, none⟩) 1 1) [[120]] := by
                  refine ⟨_, _, rfl, Nat.le_refl _, fun _ => ⟨_, _, rfl, fun i hi => ?_⟩⟩
                  match i, hi with
                  | 0, _ => exact ⟨_, by rw [cell_of_row _ _ _ _ _ _ hn]; rfl, s5⟩
                have hnn : NumOk N9 [([120] : List UInt8)].length := by
                  have h1 := HN9.out
                  have h2 := HX.out
                  simp only [NumOk, List.length_cons, List.length_nil]
                  omega
                have hpl := packB_le N9 [[120]] (by decide) (by have h1 := HN9.out; have h2 := HX.out; omega) (by have h1 := HN9.out; simp only [List.length_cons, List.length_nil]; omega)
                have hap := SegAppend_ok w1 wc db sb9 (nameB x) N9 GB ((F.add junk).cut (512 * GB)) (O + 1) 0 (fun _ => none) 0 (P + 1) L12 _ [[120]] ad (HS21.out.next (a1.trans a3)) HK.out.1 hrw (by simp) (by simp) (by have h1 := HN9.out; omega) hnn (by decide) (sg_goes _ _ _ _) HC9.out.2.1 (by omega) (by have h1 := HG.out; have h2 := HB.out.num.2.1; omega) (by omega) (by have h1 := HG.out; have h2 := HNUM.out.2.1; omega) (by rw [HC9.out.1]; simp only [List.length_cons, List.length_nil] at hpl; omega) (by omega) (by rw [nameB_length x (by have := HX.out; omega)]; omega) (fun k q h => by cases h)
                clear hn hwa hwc a1 a3 sa s5 hza hrw hnn hpl
                refine hap.mono ?_
                rintro e w23 ⟨L23, rfl, h23, -, -⟩
                clear hap
                have HU : Hid (Up w w23) := HK.out.2.trans h23.up
                have q1 : Calls Tryz.prog 17 #[.pointer (some ⟨sb9, 0, none⟩)] w23 fun e w' => e = .returned (.int .u64 ((N9 : Int) + 1)) ∧ w' = w23 := Next_any sb9 db (nameB x) (N9 + 1) _ true false w23 h23.box
                have t1 : (0 : Int) ≤ (TT : Int) := by omega
                have t2 : (TT : Int) ≤ 10000000 := by have h1 := HD.out.2.2.2; have h2 := HNUM.out; have h3 := HRES.out.2.1; have h4 := HM2.out.2; have h5 := HJ4.out; omega
                have t3 : IntKind.u64.wrap (TT : Int) = (TT : Int) := by rw [IntKind.wrap_u64]; omega
                have t4 : (x : Int) + (TT : Int) = (N9 : Int) := by have := HN9.out.1; omega
                have t5 : (N9 : Int) ≤ 2305843009220000000 := by have := HN9.out.2.1; omega
                have t6 : (0 : Int) ≤ (N9 : Int) := by omega
                have t7 : IntKind.u64.wrap (N9 : Int) = (N9 : Int) := by rw [IntKind.wrap_u64]; omega
                have t8 : IntKind.u64.wrap ((N9 : Int) + 1) = (N9 : Int) + 1 := by rw [IntKind.wrap_u64]; omega
                have t9 : (0 : Int) ≤ (x : Int) := by omega
                have t10 : (x : Int) ≤ 2305843009213693952 := by have := HX.out; omega
                clear h23
                go_wp2_with fail
                refine q1.mono ?_
                rintro e w24 ⟨rfl, hw24⟩
                obtain rfl : w23 = w24 := hw24.symm
                clear q1
                go_wp2
                go_ret
                exact ⟨rfl, HU.out⟩
end Go.Proofs.YtkfjkfpodkbkaaaGreatDoor
