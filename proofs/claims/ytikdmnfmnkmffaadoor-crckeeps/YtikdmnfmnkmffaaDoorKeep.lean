/- The law CrcKeeps returns true for every row of pieces, and changes nothing that was there, where the table of half bytes lies in its variable. -/
import Derived.Test.YtikdmnfmnkmffaaDoorKeepR
import Derived.Deep.RegionWith
import Derived.Deep.QuietTactic
import Derived.BigQuiet
set_option linter.unusedVariables false
namespace Go.Proofs.YtikdmnfmnkmffaaDoor
open Go Go.RowKit

set_option maxRecDepth 20000 in
set_option maxHeartbeats 6400000 in
theorem CrcKeeps_any (v : Value) (L : List (List UInt8)) (w : World) (ht : Tb w) (hv : Rw w v L) (hn : (L.length : Int) ≤ 5864062014805) (hl : ∀ l ∈ L, (l.length : Int) ≤ 140737488351232) :
    Calls Tryd.prog 8 #[v] w fun e w' => e = .returned (.bool true) ∧ Up w w' := by
  have Hv : Hid (Rw w v L) := hv
  obtain ⟨ao, cap, rfl, hc, hx⟩ := hv
  go_enter Tryd.func8, Tryd.ntmps8
  go_wp2_with fail
  refine (awake_any _ ht).mono ?_
  rintro e w1 ⟨rfl, hu⟩
  have hv1 : Hid (Rw w1 (.slice ao L.length cap) L) := Rw.up Hv.out hu
  clear hx
  have hou := Up.alloc w1 (.cells #[.int .i64 0, .slice none 0 0, .int .u32 0, .int .u32 0, .int .i64 0, .slice ao L.length cap] 30)
  have hops : OpsIn (w1.alloc (.cells #[.int .i64 0, .slice none 0 0, .int .u32 0, .int .u32 0, .int .i64 0, .slice ao L.length cap] 30)) (.slice (some ⟨w1.heap.size, 0, none⟩) 1 1) [⟨0, [], 0#32, 0#32, 0, L⟩] := by
    refine ⟨_, _, rfl, fun _ => ⟨w1.heap.size, 0, rfl, fun i hi => ?_⟩⟩
    match i, hi with
    | 0, _ =>
      have hn := heap_alloc_new w1 (.cells #[.int .i64 0, .slice none 0 0, .int .u32 0, .int .u32 0, .int .i64 0, .slice ao L.length cap] 30)
      exact ⟨.slice none 0 0, .slice ao L.length cap, by rw [cell_of_row _ _ _ _ _ _ hn]; rfl, by rw [cell_of_row _ _ _ _ _ _ hn]; rfl, by rw [cell_of_row _ _ _ _ _ _ hn]; rfl, by rw [cell_of_row _ _ _ _ _ _ hn]; rfl, by rw [cell_of_row _ _ _ _ _ _ hn]; rfl, by rw [cell_of_row _ _ _ _ _ _ hn]; rfl, Sl.nil _ _, hv1.out.up hou⟩
  go_wp2_with fail
  refine (much_any _ _ _ hops (by simp) (by
    intro p hp
    simp only [List.mem_singleton] at hp
    subst hp
    exact ⟨by show (0 : Int) ≤ _; omega, by show _ ≤ (0 : Int); omega, by show (([] : List UInt8).length : Int) ≤ _; simp, by show (L.length : Int) ≤ _; omega, fun l h => by have := hl l h; omega⟩)).mono ?_
  rintro e w3 ⟨⟨r, rfl⟩, hu3⟩
  have hu13 : Up w w3 := hu.trans (hou.trans hu3)
  have hv3 : Hid (Rw w3 (.slice ao L.length cap) L) := hv1.out.up (hou.trans hu3)
  clear hops hou hu3 hv1 Hv
  cases r with
  | true =>
    go_wp2
    go_ret
    exact ⟨rfl, hu13⟩
  | false =>
    have hmk := make_sl L.length (by omega)
    obtain ⟨N, hN⟩ : ∃ N : Nat → Nat, N = fun j => (L.getD j []).length := ⟨_, rfl⟩
    have HK := Kp.start w3 L.length N
    have HK0 : Hid (Kp w3 ((w3.alloc (.cells (madeCells #[.slice none 0 0] L.length) 26)).alloc (.cells (madeCells #[.slice none 0 0] L.length) 26)) w3.heap.size (w3.heap.size + 1) L.length (fun _ => 0) N (fun _ => []) 0 0) := HK
    have HN : Hid (∀ k (h : k < L.length), N k = (L[k]).length ∧ (L[k].length : Int) ≤ 140737488351232) := fun k h => ⟨by rw [hN]; simp only [List.getD_eq_getElem?_getD, List.getElem?_eq_getElem h]; rfl, hl _ (List.getElem_mem h)⟩
    clear HK hN hl
    go_wp2_with fail
    go_loopg [6, 7] L.length (fun g i kk wr => ∃ (k : Nat) (gs : Nat → Nat) (P : Nat → List UInt8), k ≤ L.length ∧ g = L.length - k ∧ i = .int .i64 k ∧ Hid (Kp w3 wr w3.heap.size (w3.heap.size + 1) L.length gs N P k k) ∧ Hid (∀ j (h : j < L.length), j < k → P j = L[j] ++ pad))
    case atStart => exact ⟨0, _, _, by omega, rfl, rfl, HK0, fun j h hj => by omega⟩
    case round =>
      clear HK0
      obtain ⟨k, gs, P, hk, rfl, rfl, hK, hP⟩ := hrel
      by_cases hlt : k < L.length
      · obtain ⟨b, o, ai, ci, rfl, hpc⟩ := rw_piece hv3.out k hlt
        obtain ⟨hNk, hNb⟩ := HN.out k hlt
        have Hlt : Hid (k < L.length) := hlt
        have Hbs0 : Hid (∃ bs, bs = L[k]'hlt) := ⟨_, rfl⟩
        generalize hbs : L[k]'hlt = bs at hpc hNk hNb
        have Hbs : Hid (bs = L[k]'hlt) := hbs.symm
        generalize hm : bs.length = m at hpc hNk hNb
        have Hm : Hid (bs.length = m) := hm
        clear hbs hm Hbs0
        have Hpc : Hid (∀ u, Up w3 u → u.cell? ⟨b, o + k, none⟩ = some (.slice ai m ci) ∧ Sl 0 u (.slice ai m ci) bs) := hpc
        have hci := (hpc wr hK.out.up).1
        clear hpc
        have hmk8 : ∀ u, (Instr.makeSlice 26 (.int .i64 ((m : Int) + 8)) (.int .i64 ((m : Int) + 8))).run Tryd.prog u = .ok (.slice (some ⟨u.heap.size, 0, none⟩) (m + 8) (m + 8)) (u.alloc (.cells (madeCells #[.int .u8 0] (m + 8)) 5)) := fun u => by
          have h := make_u8 (m + 8) (by omega) u
          rwa [show ((m + 8 : Nat) : Int) = (m : Int) + 8 by omega] at h
        have hKm := hK.out.make hlt m hNk (by omega)
        have HKm : Hid (Kp w3 ((wr.alloc (.cells (madeCells #[.int .u8 0] (m + 8)) 5)).setCell ⟨w3.heap.size, k, none⟩ (.slice (some ⟨wr.heap.size, 0, none⟩) (m + 8) (m + 8))) w3.heap.size (w3.heap.size + 1) L.length (upd gs k wr.heap.size) N (upd P k (List.replicate (m + 8) 0)) (k + 1) k) := hKm
        obtain ⟨⟨vF, hcF⟩, hfF⟩ := (hK.out.grow (Up.alloc wr (.cells (madeCells #[.int .u8 0] (m + 8)) 5))).someF k hlt
        clear hKm hK
        go_wp2_with fail
        clear hcF hfF hmk8 hci
        obtain ⟨gk, hgk⟩ : ∃ gk, gk = wr.heap.size := ⟨_, rfl⟩
        rw [← hgk] at HKm ⊢
        clear hgk
        generalize (wr.alloc (.cells (madeCells #[.int .u8 0] (m + 8)) 5)).setCell ⟨w3.heap.size, k, none⟩ (.slice (some ⟨gk, 0, none⟩) (m + 8) (m + 8)) = W1 at HKm ⊢
        have hKd := HKm.out.grow (Up.drew W1)
        have hcF := hKd.cellF k (by omega)
        rw [upd_same, hNk] at hcF
        have hci := (Hpc.out W1.drew hKd.up).1
        have hod := hKd.own k (by omega)
        rw [upd_same, upd_same, hNk] at hod
        obtain ⟨W2, hcp, ho2, hb2⟩ := copy_into W1.drew w3.heap.size gk (m + 8) (m + 8) _ bs _ hod (by simp) (Hpc.out W1.drew hKd.up).2 (by have := Hm.out; omega)
        rw [Hm.out] at hcp ho2
        have hKt := hKd.turn k (by omega) (fillP bs 0) (by
          rw [upd_same, hNk]
          have e : fillP bs 0 = bs ++ (List.replicate (m + 8) 0).drop m := by unfold fillP; rw [List.drop_replicate]; simp
          rw [e]; exact ho2) (by rw [upd_same]; exact hb2)
        have HK2 : Hid (∃ P2, Kp w3 W2 w3.heap.size (w3.heap.size + 1) L.length (upd gs k gk) N P2 (k + 1) k ∧ P2 k = fillP bs 0 ∧ ∀ j, j < k → P2 j = P j) := ⟨_, hKt, upd_same _ _ _, fun j hj => by rw [upd_other _ _ _ _ (by omega), upd_other _ _ _ _ (by omega)]⟩
        clear hKt hb2 ho2 hod hKd HKm
        go_region
        clear hcp hcF hci
        have hgs : Hid (upd gs k gk k = gk) := upd_same _ _ _
        generalize upd gs k gk = gs2 at HK2 hgs
        have hci2 : W2.cell? ⟨b, o + k, none⟩ = some (.slice ai m ci) := by
          obtain ⟨P2, q, _⟩ := HK2.out
          exact (Hpc.out W2 q.up).1
        go_wp2_with fail
        clear hci2
        go_loopg [7] 8 (fun g kk wi => ∃ t : Nat, t ≤ 8 ∧ g = 8 - t ∧ kk = .int .i64 ((m : Int) + (t : Int)) ∧ Hid (∃ P2, Kp w3 wi w3.heap.size (w3.heap.size + 1) L.length gs2 N P2 (k + 1) k ∧ P2 k = fillP bs t ∧ ∀ j, j < k → P2 j = P j))
        case atStart => exact ⟨0, by omega, rfl, by simp, HK2⟩
        case round =>
          clear HK2
          obtain ⟨t, ht8, rfl, rfl, HK⟩ := hrel
          have hcF : wr.cell? ⟨w3.heap.size, k, none⟩ = some (.slice (some ⟨gk, 0, none⟩) (m + 8) (m + 8)) := by
            obtain ⟨P2, q, _⟩ := HK.out
            have h := q.cellF k (by omega)
            rwa [hgs.out, hNk] at h
          by_cases htt : t = 8
          · subst htt
            obtain ⟨P2, q, hq, hq2⟩ := HK.out
            have qd := q.grow (Up.drew wr)
            have hcFd := qd.cellF k (by omega)
            rw [hgs.out, hNk] at hcFd
            have hcid := (Hpc.out wr.drew qd.up).1
            obtain ⟨⟨vG, hcG⟩, hfG⟩ := qd.someG k hlt
            have hsl := fun u => slice_head u gk (m + 8) (m + 8) m (by omega) (Nat.le_refl _) (by omega)
            have qg := qd.give hlt
            rw [hgs.out, hNk] at qg
            have HKg : Hid (∃ gs P, Kp w3 (wr.drew.setCell ⟨w3.heap.size + 1, k, none⟩ (.slice (some ⟨gk, 0, none⟩) m (m + 8))) w3.heap.size (w3.heap.size + 1) L.length gs N P (k + 1) (k + 1) ∧ ∀ j (h : j < L.length), j < k + 1 → P j = L[j] ++ pad) := by
              refine ⟨_, _, qg, fun j h hj => ?_⟩
              by_cases e : j = k
              · subst e; rw [hq, fillP_done, Hbs.out]
              · rw [hq2 j (by omega)]; exact hP.out j h (by omega)
            clear q qd qg hq hq2 HK ht8
            go_wp2_with fail
            go_region
            go_wp2
            go_roundg (L.length - (k + 1))
            case measure => have := Hlt.out; omega
            case rel =>
              obtain ⟨gs3, P3, h1, h2⟩ := HKg.out
              exact ⟨k + 1, gs3, P3, Hlt.out, rfl, by go_num, h1, h2⟩
          · have ht7 : (t : Int) < 8 := by omega
            have Ht : Hid (t < 8) := by show t < 8; omega
            have hmt : (m : Int) + (t : Int) < (m : Int) + 8 := by omega
            have hsome : Hid ((∃ v, wr.cell? ⟨gk, m + t, none⟩ = some v) ∧ wr.frozen? ⟨gk, m + t, none⟩ = false) := by
              obtain ⟨P2, q, hq, _⟩ := HK.out
              have h := q.cellB k (by omega) (m + t) (by rw [hq, fillP_length _ _ ht8, Hm.out]; omega)
              rw [hgs.out] at h
              exact ⟨⟨_, h.1⟩, h.2⟩
            have hnext : Hid (∃ P2, Kp w3 (wr.setCell ⟨gk, m + t, none⟩ (B 0xa7)) w3.heap.size (w3.heap.size + 1) L.length gs2 N P2 (k + 1) k ∧ P2 k = fillP bs (t + 1) ∧ ∀ j, j < k → P2 j = P j) := by
              obtain ⟨P2, q, hq, hq2⟩ := HK.out
              have h := q.byte k (by omega) (m + t) (by rw [hq, fillP_length _ _ ht8, Hm.out]; omega) 0xa7
              rw [hgs.out] at h
              refine ⟨_, h, ?_, fun j hj => ?_⟩
              · rw [upd_same, hq, ← Hm.out, fillP_next _ _ Ht.out]
              · rw [upd_other _ _ _ _ (by omega)]; exact hq2 j hj
            obtain ⟨⟨vB, hcB⟩, hfB⟩ := hsome.out
            clear HK ht8 htt
            go_wp2
            go_roundg (8 - (t + 1))
            case measure => have := Ht.out; omega
            case rel => exact ⟨t + 1, Ht.out, rfl, by congr 1, hnext⟩
      · obtain rfl : k = L.length := by omega
        have HP : Hid (∀ j (h : j < L.length), P j = L[j] ++ pad) := fun j h => hP.out j h h
        have hrwG := hK.out.rwG L rfl (fun j hj => by rw [HP.out j hj, (HN.out j hj).1]; simp)
        have htC := ht.up (hu13.trans hK.out.up)
        have hlL : ∀ l ∈ L, l.length ≤ 140737488355328 := fun l hl => by
          obtain ⟨j, hj, rfl⟩ := List.getElem_of_mem hl
          have := (HN.out j hj).2; omega
        have k1 := SumOf_any _ L wr htC hrwG (by omega) hlL
        have k2 := refSumOf_any _ L wr (hv3.out.up hK.out.up) (by omega) hlL
        obtain ⟨z, hz⟩ : ∃ z, z = sumC L.flatten := ⟨_, rfl⟩
        rw [← hz] at k1 k2
        clear hz hP hrwG hlt hk
        go_wp2_with fail
        refine k1.mono ?_
        rintro e w5 ⟨rfl, rfl⟩
        go_wp2_with fail
        refine k1.mono ?_
        rintro e w6 ⟨rfl, rfl⟩
        go_wp2_with fail
        refine k2.mono ?_
        rintro e w7 ⟨rfl, rfl⟩
        clear k1 k2
        go_wp2_with fail
        go_loopg [11, 12] L.length (fun g i kk wi => ∃ k : Nat, k ≤ L.length ∧ g = L.length - k ∧ i = .int .i64 k ∧ Hid (Kp w3 wi w3.heap.size (w3.heap.size + 1) L.length gs N P L.length L.length))
        case atStart => exact ⟨0, by omega, rfl, rfl, hK⟩
        case round =>
          clear hK htC
          obtain ⟨k, hk, rfl, rfl, hK⟩ := hrel
          by_cases hlt : k < L.length
          · obtain ⟨b, o, ai, ci, rfl, hpc⟩ := rw_piece hv3.out k hlt
            obtain ⟨hNk, hNb⟩ := HN.out k hlt
            have hPk := HP.out k hlt
            have Hlt : Hid (k < L.length) := hlt
            generalize hbs : L[k]'hlt = bs at hpc hNk hNb hPk
            clear hbs
            generalize hm : bs.length = m at hpc hNk hNb
            have Hm : Hid (bs.length = m) := hm
            have HPk : Hid (P k = bs ++ pad) := hPk
            clear hm hPk
            have Hpc : Hid (∀ u, Up w3 u → u.cell? ⟨b, o + k, none⟩ = some (.slice ai m ci) ∧ Sl 0 u (.slice ai m ci) bs) := hpc
            have hci := (hpc wr hK.out.up).1
            have hcF := hK.out.cellF k hlt
            have hcG := hK.out.cellG k hlt
            rw [hNk] at hcF hcG
            have hmm : bs.length = m := Hm.out
            have hq : ∀ q, Calls Tryd.prog 12 #[.slice (some ⟨gs k, 0, none⟩) m (m + 8)] (wr.drewN q) fun e w' => e = .returned (U (sumC bs)) ∧ w' = wr.drewN q := fun q => by
              have h := (hK.out.grow (Up.drewN wr q)).slG k hlt
              rw [hNk, HPk.out, List.take_append_of_le_length (by omega), List.take_of_length_le (by omega)] at h
              exact Sum_any 0 _ bs _ (ht.up (hu13.trans (hK.out.grow (Up.drewN wr q)).up)) h (by omega)
            have hr : ∀ q, Calls Tryd.prog 17 #[.slice ai m ci] (wr.drewN q) fun e w' => e = .returned (U (sumC bs)) ∧ w' = wr.drewN q := fun q =>
              refSum_any 0 _ bs _ (Hpc.out _ (hK.out.grow (Up.drewN wr q)).up).2 (by omega)
            have Hq : Hid (∀ q, Calls Tryd.prog 12 #[.slice (some ⟨gs k, 0, none⟩) m (m + 8)] (wr.drewN q) fun e w' => e = .returned (U (sumC bs)) ∧ w' = wr.drewN q) := hq
            have Hr : Hid (∀ q, Calls Tryd.prog 17 #[.slice ai m ci] (wr.drewN q) fun e w' => e = .returned (U (sumC bs)) ∧ w' = wr.drewN q) := hr
            clear hpc hq hr hmm
            generalize sumC bs = zb at Hq Hr
            go_wp2_with fail
            go_quiet (first
              | (go_at_call 12; exact Calls.quiet_of_same (Hq.out _))
              | (go_at_call 17; exact Calls.quiet_of_same (Hr.out _)))
            have hKq : Hid (Kp w3 (wr.drewN nq) w3.heap.size (w3.heap.size + 1) L.length gs N P L.length L.length) := hK.out.grow (Up.drewN wr nq)
            generalize wr.drewN nq = wq at hKq ⊢
            clear Hq Hr hK hcF hcG hci
            go_wp2_with fail
            go_loopg [12] (m + 8) (fun g kk wi => ∃ t : Nat, t ≤ m + 8 ∧ g = m + 8 - t ∧ kk = .int .i64 (t : Int) ∧ Hid (Kp w3 wi w3.heap.size (w3.heap.size + 1) L.length gs N P L.length L.length))
            case atStart => exact ⟨0, by omega, rfl, rfl, hKq⟩
            case round =>
              clear hKq
              obtain ⟨t, ht8, rfl, rfl, hK⟩ := hrel
              have hcF := hK.out.cellF k hlt
              rw [hNk] at hcF
              have hci := (Hpc.out wr hK.out.up).1
              by_cases htm : t < m + 8
              · have htI : (t : Int) < (m : Int) + 8 := by omega
                have hlen : (P k).length = m + 8 := by rw [HPk.out]; simp [pad, Hm.out]
                have hcB := (hK.out.cellB k hlt t (by omega)).1
                have HKd : Hid (∀ q, Kp w3 (wr.drewN q) w3.heap.size (w3.heap.size + 1) L.length gs N P L.length L.length) := fun q => hK.out.grow (Up.drewN wr q)
                have Htm : Hid (t < m + 8) := htm
                by_cases htb : t < m
                · have hbI : (t : Int) < (m : Int) := by omega
                  have htbs : t < bs.length := by rw [Hm.out]; exact htb
                  obtain ⟨ap, cp, e1, _, _, hxp⟩ := (Hpc.out wr hK.out.up).2
                  obtain ⟨bp, op, e2, _, hatp⟩ := hxp (by rintro rfl; simp at htbs)
                  simp only [Value.slice.injEq] at e1
                  obtain ⟨rfl, hme, rfl⟩ := e1
                  subst e2
                  clear hme
                  have hcP := hatp t htbs
                  have hget : (P k)[t]'(by omega) = bs[t] := by
                    have h : (P k)[t]? = (bs ++ pad)[t]? := by rw [HPk.out]
                    rw [List.getElem?_eq_getElem (by omega), List.getElem?_append_left htbs, List.getElem?_eq_getElem htbs] at h
                    exact Option.some.inj h
                  rw [hget] at hcB
                  generalize bs[t] = c at hcB hcP
                  have d1 : decide ((t : Int) < (m : Int)) = true := decide_eq_true hbI
                  have d2 : decide (t < m) = true := decide_eq_true htb
                  have d3 : decide ((m : Int) ≤ (t : Int)) = false := decide_eq_false (by omega)
                  have d4 : decide (m ≤ t) = false := decide_eq_false (by omega)
                  clear hatp hxp hK hget hlen htbs htm
                  go_wp2_with fail
                  go_quiet (fail)
                  go_wp2
                  go_roundg (m + 8 - (t + 1))
                  case measure => have := Htm.out; omega
                  case rel => exact ⟨t + 1, Htm.out, rfl, by go_num, HKd.out _⟩
                · have hbI : (m : Int) ≤ (t : Int) := by omega
                  have hget : (P k)[t]'(by omega) = 0xa7 := by
                    have h : (P k)[t]? = (bs ++ pad)[t]? := by rw [HPk.out]
                    have hmm : bs.length = m := Hm.out
                    rw [List.getElem?_eq_getElem (by omega), List.getElem?_append_right (by omega)] at h
                    unfold pad at h
                    rw [List.getElem?_replicate, if_pos (by omega)] at h
                    exact Option.some.inj h
                  rw [hget] at hcB
                  have hcB2 : wr.cell? ⟨gs k, t, none⟩ = some (.int .u8 167) := hcB
                  have d1 : decide ((t : Int) < (m : Int)) = false := decide_eq_false (by omega)
                  have d2 : decide (t < m) = false := decide_eq_false htb
                  have d3 : decide ((m : Int) ≤ (t : Int)) = true := decide_eq_true (by omega)
                  have d4 : decide (m ≤ t) = true := decide_eq_true (by omega)
                  clear hcB hK hget hlen htm
                  go_wp2_with fail
                  go_quiet (fail)
                  go_wp2
                  go_roundg (m + 8 - (t + 1))
                  case measure => have := Htm.out; omega
                  case rel => exact ⟨t + 1, Htm.out, rfl, by go_num, HKd.out _⟩
              · obtain rfl : t = m + 8 := by omega
                clear ht8 htm
                go_wp2
                go_roundg (L.length - (k + 1))
                case measure => have := Hlt.out; omega
                case rel => exact ⟨k + 1, Hlt.out, rfl, by go_num, hK⟩
          · obtain rfl : k = L.length := by omega
            obtain ⟨M, hM⟩ : ∃ M, M = L.map (fun l => l.map x5) := ⟨_, rfl⟩
            have HMl : Hid (M.length = L.length) := by show _ = _; rw [hM]; simp
            have HMg : Hid (∀ j (h : j < L.length) (h2 : j < M.length), M[j] = (L[j]).map x5) := fun j h h2 => by subst hM; simp
            have HM0 : Hid (.int .u32 0 = U (sumC (M.take 0).flatten)) := (congrArg U sumC_nil).symm
            have hK0 : Hid (∃ P2, Kp w3 wr w3.heap.size (w3.heap.size + 1) L.length gs N P2 L.length L.length ∧ ∀ j (h : j < L.length), (j < 0 → P2 j = (L[j]).map x5 ++ pad) ∧ (0 ≤ j → P2 j = L[j] ++ pad)) := ⟨P, hK.out, fun j h => ⟨fun h0 => by omega, fun _ => HP.out j h⟩⟩
            clear hM hK hlt hk
            go_wp2_with fail
            go_loopg [13, 14, 15] L.length (fun g la i kk wi => ∃ k : Nat, k ≤ L.length ∧ g = L.length - k ∧ i = .int .i64 k ∧ la = U (sumC (M.take k).flatten) ∧ Hid (∃ P2, Kp w3 wi w3.heap.size (w3.heap.size + 1) L.length gs N P2 L.length L.length ∧ ∀ j (h : j < L.length), (j < k → P2 j = (L[j]).map x5 ++ pad) ∧ (k ≤ j → P2 j = L[j] ++ pad)))
            case atStart => exact ⟨0, by omega, rfl, rfl, HM0.out, hK0⟩
            case round =>
              clear hK0 HM0
              obtain ⟨k, hk, rfl, rfl, rfl, hK⟩ := hrel
              by_cases hlt : k < L.length
              · obtain ⟨hNk, hNb⟩ := HN.out k hlt
                have Hlt : Hid (k < L.length) := hlt
                have hMk := HMg.out k hlt (by have := HMl.out; omega)
                have hMt := sumC_take M k (by have := HMl.out; omega)
                rw [hMk] at hMt
                have hstart : Hid (∃ P2, Kp w3 wr w3.heap.size (w3.heap.size + 1) L.length gs N P2 L.length L.length ∧ P2 k = turnP (L[k]'hlt) 0 ∧ ∀ j (h : j < L.length), (j < k → P2 j = (L[j]).map x5 ++ pad) ∧ (k + 1 ≤ j → P2 j = L[j] ++ pad)) := by
                  obtain ⟨P2, q, hq⟩ := hK.out
                  exact ⟨P2, q, by rw [turnP_zero]; exact (hq k hlt).2 (Nat.le_refl _), fun j h => ⟨(hq j h).1, fun h2 => (hq j h).2 (by omega)⟩⟩
                obtain ⟨bs, hbs⟩ : ∃ bs, bs = L[k]'hlt := ⟨_, rfl⟩
                have Hbs : Hid (bs = L[k]'hlt) := hbs
                rw [← hbs] at hNk hNb hMt hstart
                have HMt : Hid (sumC (M.take (k + 1)).flatten = addC (sumC (M.take k).flatten) (bs.map x5)) := hMt
                obtain ⟨lw, hlw⟩ : ∃ lw, lw = sumC (M.take k).flatten := ⟨_, rfl⟩
                rw [← hlw] at HMt ⊢
                obtain ⟨m, hm⟩ : ∃ m, m = bs.length := ⟨_, rfl⟩
                have Hm : Hid (m = bs.length) := hm
                rw [← hm] at hNk hNb
                have hcG : wr.cell? ⟨w3.heap.size + 1, k, none⟩ = some (.slice (some ⟨gs k, 0, none⟩) m (m + 8)) := by
                  obtain ⟨P2, q, _⟩ := hK.out
                  have h := q.cellG k hlt
                  rwa [hNk] at h
                clear hK hbs hMk hMt hlw hm
                go_wp2_with fail
                clear hcG
                go_loopg [15] m (fun g kk wi => ∃ t : Nat, t ≤ m ∧ g = m - t ∧ kk = .int .i64 (t : Int) ∧ Hid (∃ P2, Kp w3 wi w3.heap.size (w3.heap.size + 1) L.length gs N P2 L.length L.length ∧ P2 k = turnP bs t ∧ ∀ j (h : j < L.length), (j < k → P2 j = (L[j]).map x5 ++ pad) ∧ (k + 1 ≤ j → P2 j = L[j] ++ pad)))
                case atStart => exact ⟨0, by omega, rfl, rfl, hstart⟩
                case round =>
                  clear hstart
                  obtain ⟨t, ht8, rfl, rfl, hK⟩ := hrel
                  have hcG : wr.cell? ⟨w3.heap.size + 1, k, none⟩ = some (.slice (some ⟨gs k, 0, none⟩) m (m + 8)) := by
                    obtain ⟨P2, q, _⟩ := hK.out
                    have h := q.cellG k hlt
                    rwa [hNk] at h
                  by_cases htm : t < m
                  · have htI : (t : Int) < (m : Int) := by omega
                    have Htm : Hid (t < m) := htm
                    have htb : t < bs.length := by have := Hm.out; omega
                    have hcGd : wr.drew.cell? ⟨w3.heap.size + 1, k, none⟩ = some (.slice (some ⟨gs k, 0, none⟩) m (m + 8)) := hcG
                    have hx5 := x5_u8 (bs[t]'htb)
                    have hB : wr.drew.cell? ⟨gs k, t, none⟩ = some (B (bs[t]'htb)) ∧ wr.drew.frozen? ⟨gs k, t, none⟩ = false := by
                      obtain ⟨P2, q, hq, _⟩ := hK.out
                      have hlen : t < (P2 k).length := by rw [hq, turnP_length _ _ (by omega)]; omega
                      have h := (q.grow (Up.drew wr)).cellB k hlt t hlen
                      have hget : (P2 k)[t]'hlen = bs[t]'htb := by
                        have h2 : (P2 k)[t]? = (turnP bs t)[t]? := by rw [hq]
                        rw [List.getElem?_eq_getElem hlen, turnP_get _ _ htb] at h2
                        exact Option.some.inj h2
                      rw [hget] at h
                      exact h
                    obtain ⟨hcB, hfB⟩ := hB
                    have hnext : Hid (∃ P2, Kp w3 (wr.drew.setCell ⟨gs k, t, none⟩ (B (x5 (bs[t]'htb)))) w3.heap.size (w3.heap.size + 1) L.length gs N P2 L.length L.length ∧ P2 k = turnP bs (t + 1) ∧ ∀ j (h : j < L.length), (j < k → P2 j = (L[j]).map x5 ++ pad) ∧ (k + 1 ≤ j → P2 j = L[j] ++ pad)) := by
                      obtain ⟨P2, q, hq, hq2⟩ := hK.out
                      have hlen : t < (P2 k).length := by rw [hq, turnP_length _ _ (by omega)]; omega
                      refine ⟨_, (q.grow (Up.drew wr)).byte k hlt t hlen (x5 (bs[t]'htb)), ?_, fun j h => ⟨fun h0 => ?_, fun h0 => ?_⟩⟩
                      · rw [upd_same, hq, turnP_next _ _ htb]
                      · rw [upd_other _ _ _ _ (by omega)]; exact (hq2 j h).1 h0
                      · rw [upd_other _ _ _ _ (by omega)]; exact (hq2 j h).2 h0
                    generalize bs[t]'htb = c at hx5 hcB hnext
                    generalize x5 c = xc at hx5 hnext
                    clear hK ht8 htm htb
                    go_wp2_with fail
                    go_region
                    go_wp2
                    go_roundg (m - (t + 1))
                    case measure => have := Htm.out; omega
                    case rel => exact ⟨t + 1, Htm.out, rfl, by go_num, hnext⟩
                  · obtain rfl : t = m := by omega
                    have hadd : Calls Tryd.prog 18 #[U lw, .slice (some ⟨gs k, 0, none⟩) t (t + 8)] wr fun e w' => e = .returned (U (sumC (M.take (k + 1)).flatten)) ∧ w' = wr := by
                      obtain ⟨P2, q, hq, _⟩ := hK.out
                      have h := q.slG k hlt
                      rw [hNk, hq, Hm.out, turnP_done] at h
                      rw [HMt.out, Hm.out]
                      exact refAdd_any 0 lw _ _ wr h (by simp; have := Hm.out; omega)
                    have hdone : Hid (∃ P2, Kp w3 wr w3.heap.size (w3.heap.size + 1) L.length gs N P2 L.length L.length ∧ ∀ j (h : j < L.length), (j < k + 1 → P2 j = (L[j]).map x5 ++ pad) ∧ (k + 1 ≤ j → P2 j = L[j] ++ pad)) := by
                      obtain ⟨P2, q, hq, hq2⟩ := hK.out
                      refine ⟨P2, q, fun j h => ⟨fun h0 => ?_, (hq2 j h).2⟩⟩
                      by_cases e : j = k
                      · subst e
                        rw [hq, ← Hbs.out, Hm.out]
                        simp [turnP]
                      · exact (hq2 j h).1 (by omega)
                    clear hK ht8 htm
                    go_wp2_with fail
                    refine hadd.mono ?_
                    rintro e w8 ⟨rfl, rfl⟩
                    clear hadd
                    go_wp2
                    go_roundg (L.length - (k + 1))
                    case measure => have := Hlt.out; omega
                    case rel => exact ⟨k + 1, Hlt.out, rfl, by go_num, rfl, hdone⟩
              · obtain rfl : k = L.length := by omega
                have hsum : Calls Tryd.prog 15 #[.slice (some ⟨w3.heap.size + 1, 0, none⟩) L.length L.length] wr fun e w' => e = .returned (U (sumC M.flatten)) ∧ w' = wr := by
                  obtain ⟨P2, q, hq⟩ := hK.out
                  have hrw := q.rwG M HMl.out (fun j hj => by
                    have hj2 : j < L.length := by have := HMl.out; omega
                    rw [(hq j hj2).1 hj2, (HN.out j hj2).1, HMg.out j hj2 hj]
                    rw [List.take_append_of_le_length (by simp), List.take_of_length_le (by simp)])
                  rw [← HMl.out]
                  rw [← HMl.out] at hrw
                  refine SumOf_any _ M wr (ht.up (hu13.trans q.up)) hrw (by have := HMl.out; omega) (fun l hl => ?_)
                  obtain ⟨j, hj, rfl⟩ := List.getElem_of_mem hl
                  have hj2 : j < L.length := by have := HMl.out; omega
                  rw [HMg.out j hj2 hj, List.length_map]
                  have := (HN.out j hj2).2; omega
                have hfin : Up w wr := by
                  obtain ⟨P2, q, _⟩ := hK.out
                  exact hu13.trans q.up
                have hMall : M.take L.length = M := List.take_of_length_le (by have := HMl.out; omega)
                rw [hMall]
                generalize sumC M.flatten = zl at hsum ⊢
                clear hK hlt hk hMall
                go_wp2_with fail
                refine hsum.mono ?_
                rintro e w8 ⟨rfl, rfl⟩
                clear hsum
                go_wp2
                go_ret
                exact ⟨rfl, hfin⟩
end Go.Proofs.YtikdmnfmnkmffaaDoor
