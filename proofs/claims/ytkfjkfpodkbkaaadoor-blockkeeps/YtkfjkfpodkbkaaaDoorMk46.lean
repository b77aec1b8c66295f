/- Merged: BkKpW. -/
import Derived.Test.YtkfjkfpodkbkaaaDoorMk43
import Derived.Test.YtkfjkfpodkbkaaaDoorMk45
import Derived.Deep.QuietTactic
import Derived.BigQuiet
set_option linter.unusedVariables false
set_option linter.unusedSimpArgs false
namespace Go.Proofs.YtkfjkfpodkbkaaaDoor
open Go Go.RowKit

theorem recs_join {w w' : World} {B0 B1 B2 : Nat} {v v2 v' : Value} {L M : List (List UInt8)} {vs us : List Value} (h : Recs w B0 v L vs) (k : Recs w B1 v2 M us) (hB : B0 ≤ B1) (hlt : ∀ x ∈ vs.filterMap Value.ownBlock, x < B1) (u : Up w w') (ho : OwnV w' B2 v' (vs ++ us)) (hB2 : B0 ≤ B2) : Recs w' B0 v' (L ++ M) (vs ++ us) := by
  refine ⟨ownsRow_low ho hB2, by simp [h.len, k.len], fun i h1 h2 => ?_, ?_⟩
  · by_cases hi : i < vs.length
    · rw [List.getElem_append_left hi, List.getElem_append_left (by rw [← h.len]; exact hi)]
      exact (h.each i hi (by rw [← h.len]; exact hi)).up u
    · have e := h.len
      have hi1 : i - vs.length < us.length := by rw [List.length_append] at h1; omega
      rw [List.getElem_append_right (by omega), List.getElem_append_right (by omega)]
      have e2 : i - L.length = i - vs.length := by omega
      simp only [e2]
      exact ((k.each (i - vs.length) hi1 (by rw [← k.len]; exact hi1)).up u).low hB
  · rw [List.filterMap_append, List.nodup_append]
    refine ⟨h.nd, k.nd, fun x hx y hy e => ?_⟩
    subst e
    have h1 := hlt x hx
    have h2 := (k.mem hy).1
    omega
theorem recs_cells8 {w : World} {base : Nat} {v : Value} {L : List (List UInt8)} {vs : List Value} (h : Recs w base v L vs) : ∃ ao cap, v = .slice ao vs.length cap ∧ (ao = none → vs = []) ∧ ∀ ad, ao = some ad → ∀ j u, vs[j]? = some u → w.cell? (ad.add j) = some u := by
  rcases h.row.parts with ⟨rfl, rfl⟩ | ⟨g, cap, cur, rfl, hb, hlt, hg, hnc, hcm, hcs, ht⟩
  · exact ⟨none, 0, rfl, fun _ => rfl, (fun ad e => by cases e)⟩
  · refine ⟨_, cap, rfl, (fun e => by cases e), fun ad e j u hj => ?_⟩
    cases e
    exact World.ownsRow.cells h.row (g := g) rfl j u hj
theorem ownV_built0 (w : World) : OwnV (w.alloc (.cells #[] 27)) w.heap.size (.slice (some ⟨w.heap.size, 0, none⟩) 0 0) [] :=
  ⟨by simp, .inr ⟨w.heap.size, 0, _, rfl, Nat.le_refl _, heap_alloc_new _ _, Nat.le_refl _, by unfold maxLen; omega, by simp, by simp⟩⟩
theorem own_up8 {w w' : World} {B : Nat} {v : Value} {bs : List UInt8} (h : Own w 5 B v bs) (u : Up w w') : Own w' 5 B v bs := ownsRow_up h u

set_option maxRecDepth 20000 in
set_option maxHeartbeats 12800000 in
theorem BlockKeeps_any (first : Nat) (v : Value) (L : List (List UInt8)) (w : World) (ad : Nat → Addr) (hk : Kn w ad) (hf : first < 18446744073709551616) (hv : Rw w v L) (hn : L.length ≤ 140737488355328) (hl : ∀ r ∈ L, r.length ≤ 140737488355328) :
    Calls Tryd.prog 3 #[.int .u64 (first : Int), v] w fun e w' => e = .returned (.bool true) ∧ Up w w' := by
  have haw := awake_any w ad hk.tb hk.gl
  obtain ⟨ao, cap, hvv⟩ := hv.slice
  obtain ⟨N, hN⟩ : ∃ N, L.length = N := ⟨_, rfl⟩
  have HL : Hid (Rw w v L ∧ L.length = N ∧ ∀ r ∈ L, r.length ≤ 140737488355328) := ⟨hv, hN, hl⟩
  have HK : Hid (Kn w ad) := hk
  have HF : Hid (first < 18446744073709551616) := hf
  rw [hN] at hvv hn
  subst hvv
  clear hv hN hl hk hf
  go_enter Tryd.func3, Tryd.ntmps3
  go_wp2_with fail
  refine haw.mono ?_
  rintro e w1 ⟨rfl, u1⟩
  have hmany := many_any _ L w1 (HL.out.1.up u1) (by rw [HL.out.2.1]; exact hn) HL.out.2.2
  clear haw
  by_cases hm : Many L
  · rw [decide_eq_true hm] at hmany
    clear hm
    go_wp2_with fail
    refine hmany.mono ?_
    rintro e w2 ⟨rfl, e2⟩
    obtain rfl : w1 = w2 := e2.symm
    clear hmany
    go_wp2
    go_ret
    exact ⟨rfl, u1⟩
  rw [decide_eq_false hm] at hmany
  have hN20 : N ≤ 1048576 := by rw [← HL.out.2.1]; unfold Many at hm; omega
  have HT : Hid (totN L ≤ 16777216 ∧ N ≤ 1048576 ∧ Up w w1) := ⟨by unfold Many at hm; omega, hN20, u1⟩
  have HLE : Hid (∀ j, (lf L j).length ≤ 16777216) := fun j => by
    unfold lf
    rw [List.getD_eq_getElem?_getD]
    by_cases hj : j < L.length
    · rw [List.getElem?_eq_getElem hj]
      exact Nat.le_trans (totN_mem (List.getElem_mem hj)) HT.out.1
    · rw [List.getElem?_eq_none (by omega)]
      simp
  clear hm
  have hni : (N : Int) ≤ 1048576 := by omega
  have hn0 : (0 : Int) ≤ (N : Int) := by omega
  clear hn
  go_wp2_with fail
  refine hmany.mono ?_
  rintro e w2 ⟨rfl, e2⟩
  obtain rfl : w1 = w2 := e2.symm
  clear hmany
  have hcp := copied_any _ L w1 (HL.out.1.up u1) (by rw [HL.out.2.1]; omega) HL.out.2.2
  clear u1
  go_wp2_with fail
  refine hcp.mono ?_
  rintro e w2 ⟨v2, vs2, rfl, r2, u2⟩
  clear hcp
  obtain ⟨a2, c2, rfl⟩ := r2.recs.slice
  rw [HL.out.2.1] at r2 ⊢
  have HG0 : Hid (N ≤ c2 ∧ Up w1 w2 ∧ ((a2 = none ∧ N = 0) ∨ ∃ ga V, a2 = some ⟨ga, 0, none⟩ ∧ Gv w1 w2 w1.heap.size ga N V (lf L) 0)) := by
    have hlen : vs2.length = N := by rw [r2.len]; exact HL.out.2.1
    rcases r2.row.parts with ⟨e, e2⟩ | ⟨g, c, cur, e, hb, hlt, hg, hnc, _⟩
    · simp only [Value.slice.injEq] at e
      exact ⟨by omega, u2, .inl ⟨e.1, e.2.1⟩⟩
    · simp only [Value.slice.injEq] at e
      obtain ⟨rfl, _, rfl⟩ := e
      exact ⟨by omega, u2, .inr ⟨g, _, rfl, recs_gv r2.recs HL.out.2.1 u2 rfl⟩⟩
  clear r2 u2
  obtain ⟨b1, hb1⟩ : ∃ b1, w1.heap.size = b1 := ⟨_, rfl⟩
  have HB1 : Hid (w1.heap.size = b1) := hb1
  rw [hb1] at HG0
  clear hb1
  go_wp2_with fail
  go_loopg [7] N (fun q p wr => ∃ k : Nat, q = N - k ∧ p = .int .i64 (k : Int) ∧ Hid (k ≤ N ∧ Up w1 wr ∧ ((a2 = none ∧ N = 0) ∨ ∃ ga V, a2 = some ⟨ga, 0, none⟩ ∧ Gv w1 wr b1 ga N V (lf L) k)))
  case atStart => exact ⟨0, rfl, rfl, Nat.zero_le _, HG0.out.2⟩
  case round =>
    obtain ⟨k, rfl, rfl, HK1⟩ := hrel
    have k0 : (0 : Int) ≤ (k : Int) := by omega
    by_cases hk : k < N
    · obtain ⟨ga, V, rfl, hgv⟩ : ∃ ga V, a2 = some ⟨ga, 0, none⟩ ∧ Gv w1 wr b1 ga N V (lf L) k := by
        rcases HK1.out.2.2 with ⟨_, h⟩ | h
        · omega
        · exact h
      have k1 : (k : Int) < (N : Int) := by omega
      have kc := (hgv.cell k hk).1
      obtain ⟨vk, hvk⟩ : ∃ x, V k = x := ⟨_, rfl⟩
      rw [hvk] at kc
      have hox := hgv.own k hk (Nat.le_refl _)
      rw [hvk] at hox
      obtain ⟨R, hR⟩ : ∃ R, (lf L k).length = R := ⟨_, rfl⟩
      obtain ⟨R3, hR3⟩ : ∃ R3, R + 3 = R3 := ⟨_, rfl⟩
      have r1 : (R3 : Int) - 3 = (R : Int) := by omega
      have r2 : (R : Int) ≤ 16777216 := by have := HLE.out k; omega
      have r3 : (0 : Int) ≤ (R : Int) := by omega
      have HV : Hid (k < N ∧ Gv w1 wr b1 ga N V (lf L) k ∧ V k = vk ∧ (lf L k).length = R ∧ R + 3 = R3 ∧ b1 ≤ wr.heap.size) := ⟨hk, hgv, hvk, hR, hR3, hgv.sz⟩
      clear hk hgv hvk hR hR3
      go_wp2_with (at_builtin; refine wpList_bytesM2 _ rfl (.tmp 43) (.tmp 44) rfl b1 vk (lf L k) t3 rfl ⟨wr.heap.size, 0, none⟩ 3 rfl ?ka1 ?ka2 ?ka3 ?ka4 ?ka5 ?_)
      case ka1 => exact hox.up (Up.alloc _ _)
      case ka2 => exact (own_built wr t3 (by simp [t3])).at.add
      case ka3 => exact Nat.le_trans HV.out.2.2.2.2.2 (Up.alloc _ _).size
      case ka4 => have := HLE.out k; simp [t3]; omega
      case ka5 => exact List.cons_ne_nil _ _
      intro v6 w6 ho6 ht6
      rw [← HV.out.2.2.1] at ht6
      obtain ⟨g', c', rfl, hcp, kc6, kf6, V', hgv'⟩ := HV.out.2.1.step HV.out.1 (Up.alloc wr (.cells #[.int .u8 167, .int .u8 168, .int .u8 169] 5)) ho6 (ht6.imp (fun h => ⟨h.1, fun q hq => by have := h.2 q hq; simpa using this⟩) id)
      rw [HV.out.2.2.2.1] at hgv' hcp ⊢
      rw [HV.out.2.2.2.2.1] at hcp ⊢
      rw [HV.out.2.2.1] at kc6
      have HGV : Hid (∃ V, Gv w1 (w6.setCell ⟨ga, k, none⟩ (.slice (some ⟨g', 0, none⟩) R c')) b1 ga N V (lf L) (k + 1)) := ⟨V', hgv'⟩
      have q1 : (R3 : Int) ≤ (c' : Int) := by omega
      have q2 : (R : Int) ≤ (c' : Int) := by omega
      have q3 : R ≤ c' := by omega
      clear ho6 ht6 hgv' hox kc hcp
      go_wp2_with fail
      go_roundg (N - (k + 1))
      case measure => have := HV.out.1; omega
      case rel =>
        obtain ⟨V, h⟩ := HGV.out
        exact ⟨k + 1, rfl, by go_num, HV.out.1, by rw [← HB1.out] at h; exact h.up, .inr ⟨ga, V, rfl, h⟩⟩
    · have k1 : ¬ (k : Int) < (N : Int) := by omega
      have HG : Hid (Up w1 wr ∧ ((a2 = none ∧ N = 0) ∨ ∃ ga V, a2 = some ⟨ga, 0, none⟩ ∧ Gv w1 wr b1 ga N V (lf L) N)) := by
        have h1 := HK1.out.2
        have h2 : k = N := by have := HK1.out.1; omega
        rw [h2] at h1
        exact h1
      have hrw : Rw wr (.slice a2 N c2) L := by
        rcases HG.out.2 with ⟨rfl, e⟩ | ⟨ga, V, rfl, h⟩
        · refine ⟨none, c2, by rw [HL.out.2.1], by rw [HL.out.2.1]; exact HG0.out.1, fun hne => absurd (List.length_pos_iff.2 hne) (by have := HL.out.2.1; omega)⟩
        · exact h.rw HL.out.2.1 HG0.out.1
      have HRW : Hid (Rw wr (.slice a2 N c2) L ∧ Up w wr) := ⟨hrw, HT.out.2.2.trans HG.out.1⟩
      clear hk hrw
      obtain ⟨wG, hwG⟩ : ∃ wG, wG = wr := ⟨_, rfl⟩
      subst hwG
      have hpk := Pack_any first (.slice a2 N c2) L wG ad (HK.out.tb.up HRW.out.2) (HK.out.gl.up HRW.out.2) HF.out HRW.out.1 (by rw [HL.out.2.1]; omega)
      obtain ⟨P, S, n, hP, hPl, hsc, hn1, hS1, hS2, hcase⟩ := eNil_or ad first L (by rw [HL.out.2.1]; exact HT.out.2.1) HT.out.1
      rw [hP] at hpk
      have hpk2 : ∀ u, Up wG u → Calls Tryd.prog 7 #[.int .u64 (first : Int), .slice a2 N c2] u fun e w' => ∃ v', e = .returned (.tuple #[v', pkE ad first L]) ∧ Own w' 5 u.heap.size v' P ∧ Up u w' := fun u uu => by
        have := Pack_any first (.slice a2 N c2) L u ad (HK.out.tb.up (HRW.out.2.trans uu)) (HK.out.gl.up (HRW.out.2.trans uu)) HF.out (HRW.out.1.up uu) (by rw [HL.out.2.1]; omega)
        rwa [hP] at this
      have HP : Hid (P.length ≤ 536870912 ∧ scanB (badOf []) (P.length / 512) P 0 first = (S, n) ∧ n ≤ 1048576 ∧ S.length ≤ 1048576 ∧ (∀ r ∈ S, r.length ≤ 1000000)) := ⟨hPl, hsc, hn1, hS1, hS2⟩
      clear hP hPl hsc hn1 hS1 hS2
      have HPK : Hid _ := hpk2
      clear hpk2
      obtain ⟨EV, hEV⟩ : ∃ x, pkE ad first L = x := ⟨_, rfl⟩
      rw [hEV] at hpk HPK hcase
      clear hEV
      rcases hcase with ⟨rfl, hSL⟩ | ⟨a, rfl⟩
      · have HSL : Hid (S = L) := hSL
        clear hSL
        go_wp2_with fail
        refine hpk.mono ?_
        rintro e w3 ⟨v3, rfl, o3, u3⟩
        clear hpk
        have hpk2 := HPK.out w3 u3
        go_wp2_with fail
        refine hpk2.mono ?_
        rintro e w4 ⟨v4, rfl, o4, u4⟩
        clear hpk2 HPK
        have HO : Hid (Own w3 5 wG.heap.size v3 P ∧ Own w4 5 w3.heap.size v4 P ∧ Up wG w3 ∧ Up w3 w4) := ⟨o3, o4, u3, u4⟩
        have hag := agree8_nil w4
        have hsm := same_any _ _ v3 v4 P P w4 (o3.sl.up u4) o4.sl (by have := HP.out.1; omega) (by have := HP.out.1; omega)
        rw [decide_eq_true rfl] at hsm
        clear o3 o4 u3 u4
        go_wp2_with fail
        refine hag.mono ?_
        rintro e w5 ⟨rfl, hw5⟩
        obtain rfl : w4 = w5 := hw5.symm
        clear hag
        go_wp2_with fail
        refine hsm.mono ?_
        rintro e w5 ⟨rfl, n5, hw5⟩
        clear hsm
        have u5 : Up w4 w5 := by rw [hw5]; exact up_drewN _ _
        have hal := alike_any (.slice a2 N c2) (.slice ao N cap) L L w5 (HRW.out.1.up ((HO.out.2.2.1.trans HO.out.2.2.2).trans u5)) (HL.out.1.up (HRW.out.2.trans ((HO.out.2.2.1.trans HO.out.2.2.2).trans u5))) (by rw [HL.out.2.1]; omega) (by rw [HL.out.2.1]; omega) HL.out.2.2 HL.out.2.2
        rw [decide_eq_true rfl] at hal
        clear hw5
        go_wp2_with fail
        refine hal.mono ?_
        rintro e w6 ⟨rfl, n6, hw6⟩
        clear hal
        have U6 : Up w4 w6 := u5.trans (by rw [hw6]; exact up_drewN _ _)
        have HU6 : Hid (Up w4 w6 ∧ Up wG w6) := ⟨U6, (HO.out.2.2.1.trans HO.out.2.2.2).trans U6⟩
        clear hw6 u5 U6
        go_wp2_with fail
        go_loopg [13] N (fun q p wr => ∃ j : Nat, q = N - j ∧ p = .int .i64 (j : Int) ∧ Hid (j ≤ N ∧ Up w6 wr))
        case atStart => exact ⟨0, rfl, rfl, Nat.zero_le _, Up.refl _⟩
        case round =>
          clear k0 k1
          obtain ⟨j, rfl, rfl, HJ⟩ := hrel
          have j0 : (0 : Int) ≤ (j : Int) := by omega
          by_cases hj : j < N
          · have j1 : (j : Int) < (N : Int) := by omega
            obtain ⟨ga, V, rfl, hgv⟩ : ∃ ga V, a2 = some ⟨ga, 0, none⟩ ∧ Gv w1 wr b1 ga N V (lf L) N := by
              rcases HG.out.2 with ⟨_, h⟩ | ⟨ga, V, e, h⟩
              · omega
              · exact ⟨ga, V, e, h.up' (HU6.out.2.trans HJ.out.2)⟩
            have kc := (hgv.cell j hj).1
            obtain ⟨g, cp, evj, om⟩ := hgv.spr j hj hj
            obtain ⟨R, hR⟩ : ∃ R, (lf L j).length = R := ⟨_, rfl⟩
            obtain ⟨R3, hR3⟩ : ∃ R3, R + 3 = R3 := ⟨_, rfl⟩
            obtain ⟨X2, hX2⟩ : ∃ X2, R + 2 = X2 := ⟨_, rfl⟩
            have hcp : R3 ≤ cp := by
              obtain ⟨_, cur, f, _, _, hc, _⟩ := om.parts
              simp [t3] at hc
              omega
            have b1k : wr.cell? ⟨g, R, none⟩ = some (.int .u8 167) := by
              have h := (om.byt R (by simp [t3]; omega)).1
              rw [h, List.getElem_append_right (by omega)]
              subst hR
              simp [t3]
            have b2k : wr.cell? ⟨g, X2, none⟩ = some (.int .u8 169) := by
              have h := (om.byt X2 (by simp [t3]; omega)).1
              rw [h, List.getElem_append_right (by omega)]
              subst hR hX2
              simp [t3]
            rw [evj, hR] at kc
            have r1 : (R : Int) + 3 = (R3 : Int) := by omega
            have r2 : (R3 : Int) ≤ 16777219 := by have := HLE.out j; omega
            have r3 : (0 : Int) ≤ (R : Int) := by omega
            have r4 : (R3 : Int) ≤ (cp : Int) := by omega
            have r5 : (R : Int) + 2 = (X2 : Int) := by omega
            have r6 : (X2 : Int) < (R3 : Int) := by omega
            have r7 : (R : Int) < (R3 : Int) := by omega
            have r8 : (0 : Int) ≤ (X2 : Int) := by omega
            have HJ2 : Hid (j < N) := hj
            clear hj hgv evj om hR hR3 hX2
            go_wp2_with fail
            go_quiet (fail)
            obtain ⟨w8, hw8⟩ : ∃ w8, wr.drewN nq = w8 := ⟨_, rfl⟩
            have kc8 : w8.cell? ⟨ga, j, none⟩ = some (.slice (some ⟨g, 0, none⟩) R cp) := by rw [← hw8]; exact kc
            have b18 : w8.cell? ⟨g, R, none⟩ = some (.int .u8 167) := by rw [← hw8]; exact b1k
            have b28 : w8.cell? ⟨g, X2, none⟩ = some (.int .u8 169) := by rw [← hw8]; exact b2k
            have HU8 : Hid (Up w6 w8) := HJ.out.2.trans (by rw [← hw8]; exact up_drewN _ _)
            rw [hw8]
            clear hw8 kc b1k b2k
            go_wp2_with fail
            go_roundg (N - (j + 1))
            case measure => have := HJ2.out; omega
            case rel => exact ⟨j + 1, rfl, by go_num, HJ2.out, HU8.out⟩
          · have j1 : ¬ (j : Int) < (N : Int) := by omega
            have HW : Hid (Up w6 wr ∧ Up w wr ∧ Up w3 wr ∧ Up w4 wr) := ⟨HJ.out.2, HRW.out.2.trans (HU6.out.2.trans HJ.out.2), HO.out.2.2.2.trans (HU6.out.1.trans HJ.out.2), HU6.out.1.trans HJ.out.2⟩
            clear hj
            obtain ⟨wH, hwH⟩ : ∃ wH, wH = wr := ⟨_, rfl⟩
            subst hwH
            obtain ⟨a3, c3, e3⟩ := HO.out.1.sl.slice
            obtain ⟨a4, c4, e4⟩ := HO.out.2.1.sl.slice
            subst e3 e4
            obtain ⟨PN, hPN⟩ : ∃ PN, P.length = PN := ⟨_, rfl⟩
            have HPN : Hid (P.length = PN ∧ PN ≤ 536870912) := ⟨hPN, by rw [← hPN]; exact HP.out.1⟩
            rw [hPN] at HO ⊢
            clear hPN
            go_wp2_with (at_builtin; refine wpList_bytes_any _ rfl (.tmp 120) (.tmp 121) rfl wH.heap.size wG.heap.size _ _ [] P rfl rfl (own_built wH [] (by simp)) (HO.out.1.sl.up (HW.out.2.2.1.trans (Up.alloc _ _))) (by simp) (by rw [HPN.out.1]; have := HPN.out.2; simp; omega) ?_)
            intro v7 w7 o7 g7
            have u7 : Up wH w7 := grown_up (Up.alloc wH (.cells #[] 5)) g7 (fun x hx => by cases hx; exact Nat.le_refl _)
            have o7 : Own w7 5 wH.heap.size v7 P := o7
            have hmk := mark_any (.slice a3 PN c3) P 17 17 rfl w7 wG.heap.size ((own_up8 HO.out.1 (HW.out.2.2.1.trans u7)).m) (by have := HP.out.1; omega)
            have H7 : Hid (Own w7 5 wH.heap.size v7 P ∧ Up wH w7) := ⟨o7, u7⟩
            clear g7 o7 u7
            go_wp2_with fail
            refine hmk.mono ?_
            rintro e w8 ⟨rfl, -, g8⟩
            clear hmk
            have hlt3 : ∀ q, (Value.slice a3 PN c3).ownBlock = some q → wG.heap.size ≤ q ∧ q < w3.heap.size := fun q hq => World.ownsRow.lt HO.out.1 q hq
            have o48 : Own w8 5 w3.heap.size (.slice a4 PN c4) P := ownsRow_grown (ownsRow_up HO.out.2.1 (HW.out.2.2.2.trans H7.out.2)) g8 (fun q hq e => by
              have h1 := (World.ownsRow.lt HO.out.2.1 q hq).1
              have h2 := (hlt3 q e).2
              omega)
            have o78 : Own w8 5 wH.heap.size v7 P := ownsRow_grown H7.out.1 g8 (fun q hq e => by
              have h1 := (World.ownsRow.lt H7.out.1 q hq).1
              have h2 := (hlt3 q e).2
              have h3 := HW.out.2.2.1.size
              omega)
            have U8 : Up w w8 := grown_up (HW.out.2.1.trans H7.out.2) g8 (fun q hq => Nat.le_trans HRW.out.2.size (hlt3 q hq).1)
            have hs8 := same_any _ _ (.slice a4 PN c4) v7 P P w8 o48.sl o78.sl (by have := HP.out.1; omega) (by have := HP.out.1; omega)
            rw [decide_eq_true rfl] at hs8
            have hz8 : wH.heap.size ≤ w8.heap.size := Nat.le_trans H7.out.2.size g8.size
            have H8 : Hid (Own w8 5 wH.heap.size v7 P ∧ Up w w8 ∧ wH.heap.size ≤ w8.heap.size) := ⟨o78, U8, hz8⟩
            clear g8 hlt3 o48 o78 U8 hz8
            obtain ⟨a7, c7, e7⟩ := H8.out.1.sl.slice
            subst e7
            rw [HPN.out.1] at H8 hs8 ⊢
            clear H7
            go_wp2_with fail
            refine hs8.mono ?_
            rintro e w9 ⟨rfl, n9, hw9⟩
            clear hs8
            have u9 : Up w8 w9 := by rw [hw9]; exact up_drewN _ _
            have H9 : Hid (Own w9 5 wH.heap.size (.slice a7 PN c7) P ∧ Up w w9) := ⟨ownsRow_up H8.out.1 u9, H8.out.2.1.trans u9⟩
            clear u9 hw9
            go_wp2_with (at_builtin; refine wpList_bytes_any _ rfl (.tmp 129) (.tmp 130) rfl w9.heap.size wH.heap.size _ _ [] P rfl rfl (own_built w9 [] (by simp)) (H9.out.1.sl.up (Up.alloc _ _)) (by simp) (by rw [HPN.out.1]; have := HPN.out.2; simp; omega) ?_)
            intro v10 w10 o10 g10
            have u10 : Up w9 w10 := grown_up (Up.alloc w9 (.cells #[] 5)) g10 (fun x hx => by cases hx; exact Nat.le_refl _)
            have o10 : Own w10 5 w9.heap.size v10 P := o10
            have hz10 := u10.size
            clear g10
            go_wp2_with (at_builtin; refine wpList_bytes _ rfl (.tmp 131) (.tmp 132) rfl w9.heap.size 0 v10 P [177, 178] rfl ⟨w10.heap.size, 0, none⟩ 2 rfl ?pa1 ?pa2 ?pa3 ?pa4 ?_)
            case pa1 => exact own_up8 o10 (Up.alloc _ _)
            case pa2 => exact (own_built w10 [177, 178] (by simp)).sl.mono (Nat.zero_le _)
            case pa3 => exact Nat.le_trans hz10 (Up.alloc _ _).size
            case pa4 => rw [HPN.out.1]; have := HPN.out.2; simp; omega
            intro v11 w11 o11 g11
            have u11 : Up w9 w11 := grown_up (u10.trans (Up.alloc _ _)) g11 (fun x hx => (World.ownsRow.lt o10 x hx).1)
            obtain ⟨gf, cf, rfl, -⟩ := o11.some (by simp)
            obtain ⟨P2, hP2⟩ : ∃ P2, PN + 2 = P2 := ⟨_, rfl⟩
            have hl2 : (P ++ [177, 178]).length = P2 := by rw [List.length_append, HPN.out.1]; exact hP2
            rw [hl2] at o11 ⊢
            have ofr : OwnM w11 w9.heap.size (.slice (some ⟨gf, 0, none⟩) PN cf) P := by
              have h := ownM_front o11.m
              rwa [HPN.out.1] at h
            have hcf : PN ≤ cf := by
              obtain ⟨_, cur, f, _, _, hc, _⟩ := ofr.parts
              have := HPN.out.1
              omega
            have kb : w11.cell? ⟨gf, PN, none⟩ = some (.int .u8 177) := by
              have h := (o11.m.byt PN (by rw [hl2]; omega)).1
              rw [h, List.getElem_append_right (by rw [HPN.out.1]; omega)]
              have e := HPN.out.1
              subst e
              simp
            have H11 : Hid (OwnM w11 w9.heap.size (.slice (some ⟨gf, 0, none⟩) PN cf) P ∧ w11.cell? ⟨gf, PN, none⟩ = some (.int .u8 177) ∧ Up w w11 ∧ Own w11 5 wH.heap.size (.slice a7 PN c7) P ∧ w.heap.size ≤ w9.heap.size ∧ gf < w11.heap.size) := ⟨ofr, kb, H9.out.2.trans u11, ownsRow_up H9.out.1 u11, H9.out.2.size, (ofr.lt gf rfl).2⟩
            have p1 : (PN : Int) ≤ (cf : Int) := by omega
            have p2 : (0 : Int) ≤ (PN : Int) := by omega
            have p3 : (PN : Int) ≤ 536870912 := by have := HPN.out.2; omega
            have p4 : (PN : Int) < (P2 : Int) := by omega
            have hsc1 := Scan_any w9.heap.size (.slice (some ⟨gf, 0, none⟩) PN cf) (.slice none 0 0) P [] first w11 ad (HK.out.tb.up H11.out.2.2.1) (HK.out.gl.up H11.out.2.2.1) ofr.sl (SlI.nil _) (by have := HP.out.1; omega) (by simp) (by simp) HF.out
            rw [HP.out.2.1] at hsc1
            clear o10 g11 u10 u11 hz10 o11 hl2 hP2 ofr kb
            go_wp2_with fail
            refine hsc1.mono ?_
            rintro e w12 ⟨v12, vs12, rfl, r12, u12⟩
            clear hsc1
            have r12 : Recs w12 w11.heap.size v12 S vs12 := r12
            obtain ⟨SN, hSN⟩ : ∃ SN, S.length = SN := ⟨_, rfl⟩
            obtain ⟨a12, c12, rfl⟩ := r12.slice
            have hsc2 := Scan_any w9.heap.size (.slice (some ⟨gf, 0, none⟩) PN cf) (.slice none 0 0) P [] first w12 ad (HK.out.tb.up (H11.out.2.2.1.trans u12)) (HK.out.gl.up (H11.out.2.2.1.trans u12)) (H11.out.1.sl.up u12) (SlI.nil _) (by have := HP.out.1; omega) (by simp) (by simp) HF.out
            rw [HP.out.2.1] at hsc2
            rw [hSN] at r12 ⊢
            have HSN : Hid (S.length = SN ∧ SN ≤ 1048576) := ⟨hSN, by rw [← hSN]; exact HP.out.2.2.2.1⟩
            have H12 : Hid (Recs w12 w11.heap.size (.slice a12 SN c12) S vs12 ∧ Up w11 w12) := ⟨r12, u12⟩
            clear r12 u12 hSN
            go_wp2_with fail
            refine hsc2.mono ?_
            rintro e w13 ⟨v13, vs13, rfl, r13, u13⟩
            clear hsc2
            have r13 : Recs w13 w12.heap.size v13 S vs13 := r13
            obtain ⟨a13, c13, rfl⟩ := r13.slice
            rw [HSN.out.1] at r13 ⊢
            have H13 : Hid (Recs w13 w12.heap.size (.slice a13 SN c13) S vs13 ∧ Up w12 w13) := ⟨r13, u13⟩
            have hsl : ∀ r ∈ S, r.length ≤ 140737488355328 := fun r hr => by have := HP.out.2.2.2.2 r hr; omega
            have hSl : S.length ≤ 140737488355328 := by have := HP.out.2.2.2.1; omega
            have hal := alike_any (.slice a12 SN c12) (.slice a13 SN c13) S S w13 (H12.out.1.up u13).rw r13.rw hSl hSl hsl hsl
            rw [decide_eq_true rfl] at hal
            clear r13 u13
            go_wp2_with fail
            refine hal.mono ?_
            rintro e w14 ⟨rfl, n14, hw14⟩
            clear hal
            have u14 : Up w13 w14 := by rw [hw14]; exact up_drewN _ _
            have U14 := (H12.out.2.trans H13.out.2).trans u14
            have hsm2 := same_any _ _ (.slice (some ⟨gf, 0, none⟩) PN cf) (.slice a7 PN c7) P P w14 (H11.out.1.sl.up U14) (H11.out.2.2.2.1.sl.up U14) (by have := HP.out.1; omega) (by have := HP.out.1; omega)
            rw [decide_eq_true rfl] at hsm2
            have H14 : Hid (Up w13 w14) := u14
            clear hw14 u14 U14
            go_wp2_with fail
            refine hsm2.mono ?_
            rintro e w15 ⟨rfl, n15, hw15⟩
            clear hsm2
            have u15 : Up w14 w15 := by rw [hw15]; exact up_drewN _ _
            have U15 : Up w11 w15 := ((H12.out.2.trans H13.out.2).trans H14.out).trans u15
            have kb15 : w15.cell? ⟨gf, PN, none⟩ = some (.int .u8 177) := by
              rw [World.cell?_of_block (U15.block gf H11.out.2.2.2.2.2)]
              exact H11.out.2.1
            have H15 : Hid (Up w13 w15 ∧ Up w11 w15) := ⟨H14.out.trans u15, U15⟩
            clear hw15 u15 U15
            have hal2 := alike_any (.slice a12 SN c12) (.slice ao N cap) S L w15 ((H12.out.1.up H13.out.2).up H15.out.1).rw (HL.out.1.up (H11.out.2.2.1.trans H15.out.2)) hSl (by rw [HL.out.2.1]; omega) hsl HL.out.2.2
            rw [decide_eq_true HSL.out] at hal2
            go_wp2_with fail
            refine hal2.mono ?_
            rintro e w16 ⟨rfl, n16, hw16⟩
            clear hal2
            have u16 : Up w15 w16 := by rw [hw16]; exact up_drewN _ _
            clear hw16
            have H16 : Hid (Up w13 w16 ∧ Up w11 w16) := ⟨H15.out.1.trans u16, H15.out.2.trans u16⟩
            clear u16 hsl hSl
            obtain ⟨ax, cx, ex, hxn, hxc⟩ := recs_cells8 (H12.out.1.up (H13.out.2.trans H16.out.1))
            obtain ⟨ay, cy, ey, hyn, hyc⟩ := recs_cells8 (H13.out.1.up H16.out.1)
            have hl12 : vs12.length = SN := by rw [H12.out.1.len, HSN.out.1]
            have hl13 : vs13.length = SN := by rw [H13.out.1.len, HSN.out.1]
            rw [hl12] at ex
            rw [hl13] at ey
            simp only [Value.slice.injEq] at ex ey
            obtain ⟨rfl, -, rfl⟩ := ex
            obtain ⟨rfl, -, rfl⟩ := ey
            have HX : Hid ((∀ ad, a12 = some ad → ∀ (W : World), Up w16 W → ∀ j u, vs12[j]? = some u → W.cell? (ad.add j) = some u) ∧ (∀ ad, a13 = some ad → ∀ (W : World), Up w16 W → ∀ j u, vs13[j]? = some u → W.cell? (ad.add j) = some u)) := by
              refine ⟨fun ad e W uW j u hj => ?_, fun ad e W uW j u hj => ?_⟩
              · obtain ⟨ax2, cx2, ex2, _, hx2⟩ := recs_cells8 ((H12.out.1.up (H13.out.2.trans H16.out.1)).up uW)
                simp only [Value.slice.injEq] at ex2
                exact hx2 ad (by rw [← ex2.1]; exact e) j u hj
              · obtain ⟨ax2, cx2, ex2, _, hx2⟩ := recs_cells8 ((H13.out.1.up H16.out.1).up uW)
                simp only [Value.slice.injEq] at ex2
                exact hx2 ad (by rw [← ex2.1]; exact e) j u hj
            have HN1 : Hid ((a12 = none → vs12 = []) ∧ (a13 = none → vs13 = []) ∧ vs12.length = SN ∧ vs13.length = SN) := ⟨hxn, hyn, hl12, hl13⟩
            clear hxn hxc hyn hyc hl12 hl13
            go_wp2_with (at_builtin; refine wpList_appAny _ rfl (.tmp 183) (.tmp 184) rfl w16.heap.size _ [] vs12 rfl a12 c12 ?pa5 (ownV_built0 w16) HN1.out.1 (fun ad e => HX.out.1 ad e _ (Up.alloc _ _)) H12.out.1.one ?pa6 ?pa7 ?_)
            case pa5 => rw [HN1.out.2.2.1]; rfl
            case pa6 => exact (Up.alloc _ _).size
            case pa7 => rw [HN1.out.2.2.1]; have := HSN.out.2; simp; omega
            intro v17 w17 o17 g17 m17
            have u17 : Up w16 w17 := grown_up (Up.alloc w16 (.cells #[] 27)) g17 (fun x hx => by cases hx; exact Nat.le_refl _)
            have o17 : OwnV w17 w16.heap.size v17 vs12 := o17
            have z17 := u17.size
            clear g17 m17
            go_wp2_with (at_builtin; refine wpList_appAny _ rfl (.tmp 185) (.tmp 186) rfl w16.heap.size v17 vs12 vs13 rfl a13 c13 ?pa8 o17 HN1.out.2.1 (fun ad e => HX.out.2 ad e _ u17) H13.out.1.one z17 ?pa9 ?_)
            case pa8 => rw [HN1.out.2.2.2]; rfl
            case pa9 => rw [HN1.out.2.2.1, HN1.out.2.2.2]; have := HSN.out.2; omega
            intro v18 w18 o18 g18 m18
            have u18 : Up w16 w18 := grown_up u17 g18 (fun x hx => (World.ownsRow.lt o17 x hx).1)
            have rj : Recs w18 w11.heap.size v18 (S ++ S) (vs12 ++ vs13) := recs_join (H12.out.1.up (H13.out.2.trans H16.out.1)) (H13.out.1.up H16.out.1) H12.out.2.size (fun x hx => (H12.out.1.mem hx).2.1) u18 o18 H16.out.2.size
            have hap := apart_any v18 (S ++ S) _ w18 w11.heap.size rj (H16.out.2.trans u18).size (by rw [List.length_append, HSN.out.1]; have := HSN.out.2; omega) (fun r hr => HP.out.2.2.2.2 r (by simpa using hr))
            have H18 : Hid (Up w11 w18) := H16.out.2.trans u18
            clear o17 z17 u17 o18 g18 m18 u18 rj
            go_wp2_with fail
            refine hap.mono ?_
            rintro e w19 ⟨rfl, b19⟩
            clear hap
            have B19 : Below w11.heap.size w11 w19 := Below.trans H18.out b19
            have H19 : Hid (OwnM w19 w9.heap.size (.slice (some ⟨gf, 0, none⟩) PN cf) P ∧ Up w w19) := ⟨H11.out.1.kept (fun q hq => by cases hq; exact B19.block gf H11.out.2.2.2.2.2), H11.out.2.2.1.trans B19⟩
            have hmk2 := mark_any (.slice (some ⟨gf, 0, none⟩) PN cf) P 0 0 rfl w19 w9.heap.size H19.out.1 (by have := HP.out.1; omega)
            clear b19 B19
            go_wp2_with fail
            refine hmk2.mono ?_
            rintro e w20 ⟨rfl, o20, g20⟩
            clear hmk2
            have U20 : Up w w20 := grown_up H19.out.2 g20 (fun q hq => Nat.le_trans H11.out.2.2.2.2.1 (H19.out.1.lt q hq).1)
            have hsc3 := Scan_any w9.heap.size (.slice (some ⟨gf, 0, none⟩) PN cf) (.slice none 0 0) (rpl P.length 0) [] first w20 ad (HK.out.tb.up U20) (HK.out.gl.up U20) o20.sl (SlI.nil _) (by rw [List.length_replicate]; have := HP.out.1; omega) (by simp) (by simp) HF.out
            rw [scan_zero] at hsc3
            clear o20 g20
            go_wp2_with fail
            refine hsc3.mono ?_
            rintro e w21 ⟨v21, vs21, rfl, r21, u21⟩
            clear hsc3
            obtain ⟨a21, c21, e21⟩ := r21.slice
            have e21 : v21 = .slice a21 0 c21 := e21
            subst e21
            have U21 := U20.trans u21
            clear r21 u21 U20
            go_wp2
            go_ret
            exact ⟨rfl, U21⟩
      · skip
        go_wp2_with fail
        refine hpk.mono ?_
        rintro e w3 ⟨v3, rfl, o3, u3⟩
        clear hpk
        have hpk2 := HPK.out w3 u3
        go_wp2_with fail
        refine hpk2.mono ?_
        rintro e w4 ⟨v4, rfl, o4, u4⟩
        clear hpk2 HPK
        have HO : Hid (Own w3 5 wG.heap.size v3 P ∧ Own w4 5 w3.heap.size v4 P ∧ Up wG w3 ∧ Up w3 w4) := ⟨o3, o4, u3, u4⟩
        have hag := agree8_same a w4
        have hsm := same_any _ _ v3 v4 P P w4 (o3.sl.up u4) o4.sl (by have := HP.out.1; omega) (by have := HP.out.1; omega)
        rw [decide_eq_true rfl] at hsm
        clear o3 o4 u3 u4
        go_wp2_with fail
        refine hag.mono ?_
        rintro e w5 ⟨rfl, hw5⟩
        obtain rfl : w4 = w5 := hw5.symm
        clear hag
        go_wp2_with fail
        refine hsm.mono ?_
        rintro e w5 ⟨rfl, n5, hw5⟩
        clear hsm
        have u5 : Up w4 w5 := by rw [hw5]; exact up_drewN _ _
        have hal := alike_any (.slice a2 N c2) (.slice ao N cap) L L w5 (HRW.out.1.up ((HO.out.2.2.1.trans HO.out.2.2.2).trans u5)) (HL.out.1.up (HRW.out.2.trans ((HO.out.2.2.1.trans HO.out.2.2.2).trans u5))) (by rw [HL.out.2.1]; omega) (by rw [HL.out.2.1]; omega) HL.out.2.2 HL.out.2.2
        rw [decide_eq_true rfl] at hal
        clear hw5
        go_wp2_with fail
        refine hal.mono ?_
        rintro e w6 ⟨rfl, n6, hw6⟩
        clear hal
        have U6 : Up w4 w6 := u5.trans (by rw [hw6]; exact up_drewN _ _)
        have HU6 : Hid (Up w4 w6 ∧ Up wG w6) := ⟨U6, (HO.out.2.2.1.trans HO.out.2.2.2).trans U6⟩
        clear hw6 u5 U6
        go_wp2_with fail
        go_loopg [13] N (fun q p wr => ∃ j : Nat, q = N - j ∧ p = .int .i64 (j : Int) ∧ Hid (j ≤ N ∧ Up w6 wr))
        case atStart => exact ⟨0, rfl, rfl, Nat.zero_le _, Up.refl _⟩
        case round =>
          clear k0 k1
          obtain ⟨j, rfl, rfl, HJ⟩ := hrel
          have j0 : (0 : Int) ≤ (j : Int) := by omega
          by_cases hj : j < N
          · have j1 : (j : Int) < (N : Int) := by omega
            obtain ⟨ga, V, rfl, hgv⟩ : ∃ ga V, a2 = some ⟨ga, 0, none⟩ ∧ Gv w1 wr b1 ga N V (lf L) N := by
              rcases HG.out.2 with ⟨_, h⟩ | ⟨ga, V, e, h⟩
              · omega
              · exact ⟨ga, V, e, h.up' (HU6.out.2.trans HJ.out.2)⟩
            have kc := (hgv.cell j hj).1
            obtain ⟨g, cp, evj, om⟩ := hgv.spr j hj hj
            obtain ⟨R, hR⟩ : ∃ R, (lf L j).length = R := ⟨_, rfl⟩
            obtain ⟨R3, hR3⟩ : ∃ R3, R + 3 = R3 := ⟨_, rfl⟩
            obtain ⟨X2, hX2⟩ : ∃ X2, R + 2 = X2 := ⟨_, rfl⟩
            have hcp : R3 ≤ cp := by
              obtain ⟨_, cur, f, _, _, hc, _⟩ := om.parts
              simp [t3] at hc
              omega
            have b1k : wr.cell? ⟨g, R, none⟩ = some (.int .u8 167) := by
              have h := (om.byt R (by simp [t3]; omega)).1
              rw [h, List.getElem_append_right (by omega)]
              subst hR
              simp [t3]
            have b2k : wr.cell? ⟨g, X2, none⟩ = some (.int .u8 169) := by
              have h := (om.byt X2 (by simp [t3]; omega)).1
              rw [h, List.getElem_append_right (by omega)]
              subst hR hX2
              simp [t3]
            rw [evj, hR] at kc
            have r1 : (R : Int) + 3 = (R3 : Int) := by omega
            have r2 : (R3 : Int) ≤ 16777219 := by have := HLE.out j; omega
            have r3 : (0 : Int) ≤ (R : Int) := by omega
            have r4 : (R3 : Int) ≤ (cp : Int) := by omega
            have r5 : (R : Int) + 2 = (X2 : Int) := by omega
            have r6 : (X2 : Int) < (R3 : Int) := by omega
            have r7 : (R : Int) < (R3 : Int) := by omega
            have r8 : (0 : Int) ≤ (X2 : Int) := by omega
            have HJ2 : Hid (j < N) := hj
            clear hj hgv evj om hR hR3 hX2
            go_wp2_with fail
            go_quiet (fail)
            obtain ⟨w8, hw8⟩ : ∃ w8, wr.drewN nq = w8 := ⟨_, rfl⟩
            have kc8 : w8.cell? ⟨ga, j, none⟩ = some (.slice (some ⟨g, 0, none⟩) R cp) := by rw [← hw8]; exact kc
            have b18 : w8.cell? ⟨g, R, none⟩ = some (.int .u8 167) := by rw [← hw8]; exact b1k
            have b28 : w8.cell? ⟨g, X2, none⟩ = some (.int .u8 169) := by rw [← hw8]; exact b2k
            have HU8 : Hid (Up w6 w8) := HJ.out.2.trans (by rw [← hw8]; exact up_drewN _ _)
            rw [hw8]
            clear hw8 kc b1k b2k
            go_wp2_with fail
            go_roundg (N - (j + 1))
            case measure => have := HJ2.out; omega
            case rel => exact ⟨j + 1, rfl, by go_num, HJ2.out, HU8.out⟩
          · have j1 : ¬ (j : Int) < (N : Int) := by omega
            have HW : Hid (Up w6 wr ∧ Up w wr ∧ Up w3 wr ∧ Up w4 wr) := ⟨HJ.out.2, HRW.out.2.trans (HU6.out.2.trans HJ.out.2), HO.out.2.2.2.trans (HU6.out.1.trans HJ.out.2), HU6.out.1.trans HJ.out.2⟩
            clear hj
            obtain ⟨wH, hwH⟩ : ∃ wH, wH = wr := ⟨_, rfl⟩
            subst hwH
            obtain ⟨a3, c3, e3⟩ := HO.out.1.sl.slice
            obtain ⟨a4, c4, e4⟩ := HO.out.2.1.sl.slice
            subst e3 e4
            obtain ⟨PN, hPN⟩ : ∃ PN, P.length = PN := ⟨_, rfl⟩
            have HPN : Hid (P.length = PN ∧ PN ≤ 536870912) := ⟨hPN, by rw [← hPN]; exact HP.out.1⟩
            rw [hPN] at HO ⊢
            clear hPN
            go_wp2_with (at_builtin; refine wpList_bytes_any _ rfl (.tmp 120) (.tmp 121) rfl wH.heap.size wG.heap.size _ _ [] P rfl rfl (own_built wH [] (by simp)) (HO.out.1.sl.up (HW.out.2.2.1.trans (Up.alloc _ _))) (by simp) (by rw [HPN.out.1]; have := HPN.out.2; simp; omega) ?_)
            intro v7 w7 o7 g7
            have u7 : Up wH w7 := grown_up (Up.alloc wH (.cells #[] 5)) g7 (fun x hx => by cases hx; exact Nat.le_refl _)
            have o7 : Own w7 5 wH.heap.size v7 P := o7
            have hmk := mark_any (.slice a3 PN c3) P 17 17 rfl w7 wG.heap.size ((own_up8 HO.out.1 (HW.out.2.2.1.trans u7)).m) (by have := HP.out.1; omega)
            have H7 : Hid (Own w7 5 wH.heap.size v7 P ∧ Up wH w7) := ⟨o7, u7⟩
            clear g7 o7 u7
            go_wp2_with fail
            refine hmk.mono ?_
            rintro e w8 ⟨rfl, -, g8⟩
            clear hmk
            have hlt3 : ∀ q, (Value.slice a3 PN c3).ownBlock = some q → wG.heap.size ≤ q ∧ q < w3.heap.size := fun q hq => World.ownsRow.lt HO.out.1 q hq
            have o48 : Own w8 5 w3.heap.size (.slice a4 PN c4) P := ownsRow_grown (ownsRow_up HO.out.2.1 (HW.out.2.2.2.trans H7.out.2)) g8 (fun q hq e => by
              have h1 := (World.ownsRow.lt HO.out.2.1 q hq).1
              have h2 := (hlt3 q e).2
              omega)
            have o78 : Own w8 5 wH.heap.size v7 P := ownsRow_grown H7.out.1 g8 (fun q hq e => by
              have h1 := (World.ownsRow.lt H7.out.1 q hq).1
              have h2 := (hlt3 q e).2
              have h3 := HW.out.2.2.1.size
              omega)
            have U8 : Up w w8 := grown_up (HW.out.2.1.trans H7.out.2) g8 (fun q hq => Nat.le_trans HRW.out.2.size (hlt3 q hq).1)
            have hs8 := same_any _ _ (.slice a4 PN c4) v7 P P w8 o48.sl o78.sl (by have := HP.out.1; omega) (by have := HP.out.1; omega)
            rw [decide_eq_true rfl] at hs8
            have hz8 : wH.heap.size ≤ w8.heap.size := Nat.le_trans H7.out.2.size g8.size
            have H8 : Hid (Own w8 5 wH.heap.size v7 P ∧ Up w w8 ∧ wH.heap.size ≤ w8.heap.size) := ⟨o78, U8, hz8⟩
            clear g8 hlt3 o48 o78 U8 hz8
            obtain ⟨a7, c7, e7⟩ := H8.out.1.sl.slice
            subst e7
            rw [HPN.out.1] at H8 hs8 ⊢
            clear H7
            go_wp2_with fail
            refine hs8.mono ?_
            rintro e w9 ⟨rfl, n9, hw9⟩
            clear hs8
            have u9 : Up w8 w9 := by rw [hw9]; exact up_drewN _ _
            have H9 : Hid (Own w9 5 wH.heap.size (.slice a7 PN c7) P ∧ Up w w9) := ⟨ownsRow_up H8.out.1 u9, H8.out.2.1.trans u9⟩
            clear u9 hw9
            go_wp2_with (at_builtin; refine wpList_bytes_any _ rfl (.tmp 129) (.tmp 130) rfl w9.heap.size wH.heap.size _ _ [] P rfl rfl (own_built w9 [] (by simp)) (H9.out.1.sl.up (Up.alloc _ _)) (by simp) (by rw [HPN.out.1]; have := HPN.out.2; simp; omega) ?_)
            intro v10 w10 o10 g10
            have u10 : Up w9 w10 := grown_up (Up.alloc w9 (.cells #[] 5)) g10 (fun x hx => by cases hx; exact Nat.le_refl _)
            have o10 : Own w10 5 w9.heap.size v10 P := o10
            have hz10 := u10.size
            clear g10
            go_wp2_with (at_builtin; refine wpList_bytes _ rfl (.tmp 131) (.tmp 132) rfl w9.heap.size 0 v10 P [177, 178] rfl ⟨w10.heap.size, 0, none⟩ 2 rfl ?pb1 ?pb2 ?pb3 ?pb4 ?_)
            case pb1 => exact own_up8 o10 (Up.alloc _ _)
            case pb2 => exact (own_built w10 [177, 178] (by simp)).sl.mono (Nat.zero_le _)
            case pb3 => exact Nat.le_trans hz10 (Up.alloc _ _).size
            case pb4 => rw [HPN.out.1]; have := HPN.out.2; simp; omega
            intro v11 w11 o11 g11
            have u11 : Up w9 w11 := grown_up (u10.trans (Up.alloc _ _)) g11 (fun x hx => (World.ownsRow.lt o10 x hx).1)
            obtain ⟨gf, cf, rfl, -⟩ := o11.some (by simp)
            obtain ⟨P2, hP2⟩ : ∃ P2, PN + 2 = P2 := ⟨_, rfl⟩
            have hl2 : (P ++ [177, 178]).length = P2 := by rw [List.length_append, HPN.out.1]; exact hP2
            rw [hl2] at o11 ⊢
            have ofr : OwnM w11 w9.heap.size (.slice (some ⟨gf, 0, none⟩) PN cf) P := by
              have h := ownM_front o11.m
              rwa [HPN.out.1] at h
            have hcf : PN ≤ cf := by
              obtain ⟨_, cur, f, _, _, hc, _⟩ := ofr.parts
              have := HPN.out.1
              omega
            have kb : w11.cell? ⟨gf, PN, none⟩ = some (.int .u8 177) := by
              have h := (o11.m.byt PN (by rw [hl2]; omega)).1
              rw [h, List.getElem_append_right (by rw [HPN.out.1]; omega)]
              have e := HPN.out.1
              subst e
              simp
            have H11 : Hid (OwnM w11 w9.heap.size (.slice (some ⟨gf, 0, none⟩) PN cf) P ∧ w11.cell? ⟨gf, PN, none⟩ = some (.int .u8 177) ∧ Up w w11 ∧ Own w11 5 wH.heap.size (.slice a7 PN c7) P ∧ w.heap.size ≤ w9.heap.size ∧ gf < w11.heap.size) := ⟨ofr, kb, H9.out.2.trans u11, ownsRow_up H9.out.1 u11, H9.out.2.size, (ofr.lt gf rfl).2⟩
            have p1 : (PN : Int) ≤ (cf : Int) := by omega
            have p2 : (0 : Int) ≤ (PN : Int) := by omega
            have p3 : (PN : Int) ≤ 536870912 := by have := HPN.out.2; omega
            have p4 : (PN : Int) < (P2 : Int) := by omega
            have hsc1 := Scan_any w9.heap.size (.slice (some ⟨gf, 0, none⟩) PN cf) (.slice none 0 0) P [] first w11 ad (HK.out.tb.up H11.out.2.2.1) (HK.out.gl.up H11.out.2.2.1) ofr.sl (SlI.nil _) (by have := HP.out.1; omega) (by simp) (by simp) HF.out
            rw [HP.out.2.1] at hsc1
            clear o10 g11 u10 u11 hz10 o11 hl2 hP2 ofr kb
            go_wp2_with fail
            refine hsc1.mono ?_
            rintro e w12 ⟨v12, vs12, rfl, r12, u12⟩
            clear hsc1
            have r12 : Recs w12 w11.heap.size v12 S vs12 := r12
            obtain ⟨SN, hSN⟩ : ∃ SN, S.length = SN := ⟨_, rfl⟩
            obtain ⟨a12, c12, rfl⟩ := r12.slice
            have hsc2 := Scan_any w9.heap.size (.slice (some ⟨gf, 0, none⟩) PN cf) (.slice none 0 0) P [] first w12 ad (HK.out.tb.up (H11.out.2.2.1.trans u12)) (HK.out.gl.up (H11.out.2.2.1.trans u12)) (H11.out.1.sl.up u12) (SlI.nil _) (by have := HP.out.1; omega) (by simp) (by simp) HF.out
            rw [HP.out.2.1] at hsc2
            rw [hSN] at r12 ⊢
            have HSN : Hid (S.length = SN ∧ SN ≤ 1048576) := ⟨hSN, by rw [← hSN]; exact HP.out.2.2.2.1⟩
            have H12 : Hid (Recs w12 w11.heap.size (.slice a12 SN c12) S vs12 ∧ Up w11 w12) := ⟨r12, u12⟩
            clear r12 u12 hSN
            go_wp2_with fail
            refine hsc2.mono ?_
            rintro e w13 ⟨v13, vs13, rfl, r13, u13⟩
            clear hsc2
            have r13 : Recs w13 w12.heap.size v13 S vs13 := r13
            obtain ⟨a13, c13, rfl⟩ := r13.slice
            rw [HSN.out.1] at r13 ⊢
            have H13 : Hid (Recs w13 w12.heap.size (.slice a13 SN c13) S vs13 ∧ Up w12 w13) := ⟨r13, u13⟩
            have hsl : ∀ r ∈ S, r.length ≤ 140737488355328 := fun r hr => by have := HP.out.2.2.2.2 r hr; omega
            have hSl : S.length ≤ 140737488355328 := by have := HP.out.2.2.2.1; omega
            have hal := alike_any (.slice a12 SN c12) (.slice a13 SN c13) S S w13 (H12.out.1.up u13).rw r13.rw hSl hSl hsl hsl
            rw [decide_eq_true rfl] at hal
            clear r13 u13
            go_wp2_with fail
            refine hal.mono ?_
            rintro e w14 ⟨rfl, n14, hw14⟩
            clear hal
            have u14 : Up w13 w14 := by rw [hw14]; exact up_drewN _ _
            have U14 := (H12.out.2.trans H13.out.2).trans u14
            have hsm2 := same_any _ _ (.slice (some ⟨gf, 0, none⟩) PN cf) (.slice a7 PN c7) P P w14 (H11.out.1.sl.up U14) (H11.out.2.2.2.1.sl.up U14) (by have := HP.out.1; omega) (by have := HP.out.1; omega)
            rw [decide_eq_true rfl] at hsm2
            have H14 : Hid (Up w13 w14) := u14
            clear hw14 u14 U14
            go_wp2_with fail
            refine hsm2.mono ?_
            rintro e w15 ⟨rfl, n15, hw15⟩
            clear hsm2
            have u15 : Up w14 w15 := by rw [hw15]; exact up_drewN _ _
            have U15 : Up w11 w15 := ((H12.out.2.trans H13.out.2).trans H14.out).trans u15
            have kb15 : w15.cell? ⟨gf, PN, none⟩ = some (.int .u8 177) := by
              rw [World.cell?_of_block (U15.block gf H11.out.2.2.2.2.2)]
              exact H11.out.2.1
            have H15 : Hid (Up w13 w15 ∧ Up w11 w15) := ⟨H14.out.trans u15, U15⟩
            clear hw15 u15 U15
            obtain ⟨w16, hw16⟩ : ∃ w16, w15 = w16 := ⟨_, rfl⟩
            have u16 : Up w15 w16 := by rw [← hw16]; exact Up.refl _
            rw [hw16] at kb15 ⊢
            clear hw16
            have H16 : Hid (Up w13 w16 ∧ Up w11 w16) := ⟨H15.out.1.trans u16, H15.out.2.trans u16⟩
            clear u16 hsl hSl
            obtain ⟨ax, cx, ex, hxn, hxc⟩ := recs_cells8 (H12.out.1.up (H13.out.2.trans H16.out.1))
            obtain ⟨ay, cy, ey, hyn, hyc⟩ := recs_cells8 (H13.out.1.up H16.out.1)
            have hl12 : vs12.length = SN := by rw [H12.out.1.len, HSN.out.1]
            have hl13 : vs13.length = SN := by rw [H13.out.1.len, HSN.out.1]
            rw [hl12] at ex
            rw [hl13] at ey
            simp only [Value.slice.injEq] at ex ey
            obtain ⟨rfl, -, rfl⟩ := ex
            obtain ⟨rfl, -, rfl⟩ := ey
            have HX : Hid ((∀ ad, a12 = some ad → ∀ (W : World), Up w16 W → ∀ j u, vs12[j]? = some u → W.cell? (ad.add j) = some u) ∧ (∀ ad, a13 = some ad → ∀ (W : World), Up w16 W → ∀ j u, vs13[j]? = some u → W.cell? (ad.add j) = some u)) := by
              refine ⟨fun ad e W uW j u hj => ?_, fun ad e W uW j u hj => ?_⟩
              · obtain ⟨ax2, cx2, ex2, _, hx2⟩ := recs_cells8 ((H12.out.1.up (H13.out.2.trans H16.out.1)).up uW)
                simp only [Value.slice.injEq] at ex2
                exact hx2 ad (by rw [← ex2.1]; exact e) j u hj
              · obtain ⟨ax2, cx2, ex2, _, hx2⟩ := recs_cells8 ((H13.out.1.up H16.out.1).up uW)
                simp only [Value.slice.injEq] at ex2
                exact hx2 ad (by rw [← ex2.1]; exact e) j u hj
            have HN1 : Hid ((a12 = none → vs12 = []) ∧ (a13 = none → vs13 = []) ∧ vs12.length = SN ∧ vs13.length = SN) := ⟨hxn, hyn, hl12, hl13⟩
            clear hxn hxc hyn hyc hl12 hl13
            go_wp2_with (at_builtin; refine wpList_appAny _ rfl (.tmp 183) (.tmp 184) rfl w16.heap.size _ [] vs12 rfl a12 c12 ?pb5 (ownV_built0 w16) HN1.out.1 (fun ad e => HX.out.1 ad e _ (Up.alloc _ _)) H12.out.1.one ?pb6 ?pb7 ?_)
            case pb5 => rw [HN1.out.2.2.1]; rfl
            case pb6 => exact (Up.alloc _ _).size
            case pb7 => rw [HN1.out.2.2.1]; have := HSN.out.2; simp; omega
            intro v17 w17 o17 g17 m17
            have u17 : Up w16 w17 := grown_up (Up.alloc w16 (.cells #[] 27)) g17 (fun x hx => by cases hx; exact Nat.le_refl _)
            have o17 : OwnV w17 w16.heap.size v17 vs12 := o17
            have z17 := u17.size
            clear g17 m17
            go_wp2_with (at_builtin; refine wpList_appAny _ rfl (.tmp 185) (.tmp 186) rfl w16.heap.size v17 vs12 vs13 rfl a13 c13 ?pb8 o17 HN1.out.2.1 (fun ad e => HX.out.2 ad e _ u17) H13.out.1.one z17 ?pb9 ?_)
            case pb8 => rw [HN1.out.2.2.2]; rfl
            case pb9 => rw [HN1.out.2.2.1, HN1.out.2.2.2]; have := HSN.out.2; omega
            intro v18 w18 o18 g18 m18
            have u18 : Up w16 w18 := grown_up u17 g18 (fun x hx => (World.ownsRow.lt o17 x hx).1)
            have rj : Recs w18 w11.heap.size v18 (S ++ S) (vs12 ++ vs13) := recs_join (H12.out.1.up (H13.out.2.trans H16.out.1)) (H13.out.1.up H16.out.1) H12.out.2.size (fun x hx => (H12.out.1.mem hx).2.1) u18 o18 H16.out.2.size
            have hap := apart_any v18 (S ++ S) _ w18 w11.heap.size rj (H16.out.2.trans u18).size (by rw [List.length_append, HSN.out.1]; have := HSN.out.2; omega) (fun r hr => HP.out.2.2.2.2 r (by simpa using hr))
            have H18 : Hid (Up w11 w18) := H16.out.2.trans u18
            clear o17 z17 u17 o18 g18 m18 u18 rj
            go_wp2_with fail
            refine hap.mono ?_
            rintro e w19 ⟨rfl, b19⟩
            clear hap
            have B19 : Below w11.heap.size w11 w19 := Below.trans H18.out b19
            have H19 : Hid (OwnM w19 w9.heap.size (.slice (some ⟨gf, 0, none⟩) PN cf) P ∧ Up w w19) := ⟨H11.out.1.kept (fun q hq => by cases hq; exact B19.block gf H11.out.2.2.2.2.2), H11.out.2.2.1.trans B19⟩
            have hmk2 := mark_any (.slice (some ⟨gf, 0, none⟩) PN cf) P 0 0 rfl w19 w9.heap.size H19.out.1 (by have := HP.out.1; omega)
            clear b19 B19
            go_wp2_with fail
            refine hmk2.mono ?_
            rintro e w20 ⟨rfl, o20, g20⟩
            clear hmk2
            have U20 : Up w w20 := grown_up H19.out.2 g20 (fun q hq => Nat.le_trans H11.out.2.2.2.2.1 (H19.out.1.lt q hq).1)
            have hsc3 := Scan_any w9.heap.size (.slice (some ⟨gf, 0, none⟩) PN cf) (.slice none 0 0) (rpl P.length 0) [] first w20 ad (HK.out.tb.up U20) (HK.out.gl.up U20) o20.sl (SlI.nil _) (by rw [List.length_replicate]; have := HP.out.1; omega) (by simp) (by simp) HF.out
            rw [scan_zero] at hsc3
            clear o20 g20
            go_wp2_with fail
            refine hsc3.mono ?_
            rintro e w21 ⟨v21, vs21, rfl, r21, u21⟩
            clear hsc3
            obtain ⟨a21, c21, e21⟩ := r21.slice
            have e21 : v21 = .slice a21 0 c21 := e21
            subst e21
            have U21 := U20.trans u21
            clear r21 u21 U20
            go_wp2
            go_ret
            exact ⟨rfl, U21⟩
end Go.Proofs.YtkfjkfpodkbkaaaDoor
