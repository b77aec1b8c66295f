/- block: the reference's Pack. -/
import Derived.Test.YtoljalolfdnghaaDoorBkRefE
import Derived.Test.YtoljalolfdnghaaDoorBkPk
set_option linter.unusedVariables false
set_option linter.unusedSimpArgs false
namespace Go.Proofs.YtoljalolfdnghaaDoor
open Go Go.RowKit

theorem rw_cut2 {w : World} {v : Value} {L : List (List UInt8)} (hs : Rw w v L) (l h : Nat) (hl : l ≤ h) (hh : h ≤ L.length) :
    ∃ v', Rw w v' ((L.drop l).take (h - l)) ∧ ∀ u, (Instr.slice 27 v (some (.int .i64 (l : Int))) (some (.int .i64 (h : Int))) none).run Tryd.prog u = .ok v' u := by
  obtain ⟨ao, cap, rfl, hc, hx⟩ := hs
  have hu : Tryd.prog.underlying 27 = some (.slice (Tryd.prog.elem 27)) := by rw [elem_rows]; exact Tryd.underlying27
  refine ⟨sliced ao l h cap 1, ?_, fun u => ?_⟩
  · refine ⟨if cap = l then ao else ao.map (·.add (l * 1)), cap - l, ?_, ?_, ?_⟩
    · simp [sliced]; omega
    · simp; omega
    · intro hne
      have hb : L ≠ [] := by rintro rfl; simp at hne
      obtain ⟨b, o, rfl, ha⟩ := hx hb
      have hlt : l < h := by
        rcases Nat.lt_or_ge l h with h1 | h1
        · exact h1
        · exact absurd (by rw [show h - l = 0 by omega]; simp) hne
      rw [if_neg (by omega)]
      refine ⟨b, o + l, by simp [Addr.add_lit], ?_⟩
      intro i hi
      have hi' : i < h - l ∧ l + i < L.length := by simp at hi; omega
      obtain ⟨vi, h1, h2⟩ := ha (l + i) hi'.2
      exact ⟨vi, by rw [Nat.add_assoc]; exact h1, by simpa using h2⟩
  · rw [run_slice_lh u 27 ao _ cap hu .i64 .i64 _ _ (by omega) (by omega) (by omega), elem_rows, size_sl]
    simp [Result.andThen]

theorem rPack_none (first : Nat) (v : Value) (w : World) (hv : Rw w v []) :
    Calls Tryd.prog 28 #[.int .u64 (first : Int), v] w fun e w' => ∃ v', e = .returned (.tuple #[v', .int .i64 0]) ∧ Own w' 5 w.heap.size v' [] ∧ Up w w' := by
  obtain ⟨ao, cap, rfl, _⟩ := hv
  have ob := own_built w [] (by decide)
  have u1 : Up w (w.alloc (.cells (Bv []).toArray 5)) := Up.alloc _ _
  go_enter Tryd.func28, Tryd.ntmps28
  go_wp2
  go_ret2
  exact ⟨_, rfl, ob, u1⟩

theorem rPack_arg (first : Nat) (v : Value) (L : List (List UInt8)) (w : World) (hf : first < 18446744073709551616) (hv : Rw w v L) (hn : L.length ≤ 140737488355328) (h0 : 0 < L.length) (h : ¬ NumOk first L.length) :
    Calls Tryd.prog 28 #[.int .u64 (first : Int), v] w fun e w' => e = .returned (.tuple #[.slice none 0 0, .int .i64 1]) ∧ Up w w' := by
  obtain ⟨ao, cap, rfl, _⟩ := hv
  have hnum := rNumbered_any first L.length hf h0 (by omega) (w.alloc (.cells #[] 5))
  rw [decide_eq_false h] at hnum
  clear h
  obtain ⟨N, hN⟩ : ∃ N, L.length = N := ⟨_, rfl⟩
  rw [hN] at h0 hn hnum ⊢
  have hz : ((N : Int) == 0) = false := by simp; omega
  have u1 : Up w (w.alloc (.cells #[] 5)) := Up.alloc _ _
  clear hN h0
  go_enter Tryd.func28, Tryd.ntmps28
  go_wp2_with fail
  refine hnum.mono ?_
  rintro e w1 ⟨rfl, rfl⟩
  clear hnum
  go_wp2
  go_ret2
  exact ⟨rfl, u1⟩

set_option maxRecDepth 20000 in
set_option maxHeartbeats 1600000 in
theorem rPack_long (first : Nat) (v : Value) (L : List (List UInt8)) (w : World) (hf : first < 18446744073709551616) (hv : Rw w v L) (hn : L.length ≤ 140737488355328) (h : NumOk first L.length) (h2 : anyLong L = true) :
    Calls Tryd.prog 28 #[.int .u64 (first : Int), v] w fun e w' => e = .returned (.tuple #[.slice none 0 0, .int .i64 4]) ∧ Up w w' := by
  have H2 : Hid (anyLong L = true) := h2
  have h0 := h.1
  have hnum := rNumbered_any first L.length hf h0 (by omega) (w.alloc (.cells #[] 5))
  rw [decide_eq_true h] at hnum
  have HV : Hid (Rw w v L) := hv
  obtain ⟨ao, cap, hvv⟩ := hv.slice
  clear h h2 hv
  obtain ⟨N, hN⟩ : ∃ N, L.length = N := ⟨_, rfl⟩
  have HN : Hid (L.length = N) := hN
  rw [hN] at h0 hn hnum hvv
  subst hvv
  have hz : ((N : Int) == 0) = false := by simp; omega
  have u1 : Up w (w.alloc (.cells #[] 5)) := Up.alloc _ _
  obtain ⟨wa, hwa⟩ : ∃ wa, w.alloc (.cells #[] 5) = wa := ⟨_, rfl⟩
  rw [hwa] at hnum u1
  clear hN h0
  go_enter Tryd.func28, Tryd.ntmps28
  go_wp2_with fail
  clear hwa
  refine hnum.mono ?_
  rintro e w1 ⟨rfl, e1⟩
  obtain rfl : wa = w1 := e1.symm
  clear hnum
  go_wp2
  go_loopg [7] N (fun g i wr => wa = wr ∧ ∃ k : Nat, k ≤ N ∧ g = N - k ∧ i = .int .i64 k ∧ Hid (anyLong (L.take k) = false))
  case atStart => exact ⟨rfl, 0, by omega, rfl, rfl, rfl⟩
  case round =>
    obtain ⟨rfl, k, hk, rfl, rfl, ha⟩ := hrel
    by_cases hlt : k < N
    · have hlt' : k < L.length := by rw [HN.out]; exact hlt
      obtain ⟨b, o, cap', vi, e1, hat⟩ := HV.out.at k hlt'
      simp only [Value.slice.injEq] at e1
      obtain ⟨rfl, eN, rfl⟩ := e1
      clear eN
      obtain ⟨hca, hsl⟩ := hat _ u1
      have Hlt : Hid (k < N) := hlt
      have hst : anyLong (L.take (k + 1)) = decide (200 < (L[k]'hlt').length) := by
        have := ha.out
        unfold anyLong at this ⊢
        rw [List.take_succ_eq_append_getElem hlt', List.any_append, this]
        simp
      obtain ⟨ai, ci, rfl, _⟩ := hsl
      clear hat
      obtain ⟨m, hm⟩ : ∃ m, (L[k]'hlt').length = m := ⟨_, rfl⟩
      rw [hm] at hst hca
      clear hm
      by_cases hb : 200 < m
      · have hb' : (200 : Int) < (m : Int) := by omega
        clear hst hb ha HV H2
        go_wp2
        go_ret2
        exact ⟨rfl, u1⟩
      · have hst2 : Hid (anyLong (L.take (k + 1)) = false) := hst.trans (by simp; omega)
        have hb' : ¬ (200 : Int) < (m : Int) := by omega
        clear hst hb ha
        go_wp2
        go_roundg (N - (k + 1))
        case measure => have := Hlt.out; omega
        case rel => exact ⟨rfl, k + 1, Hlt.out, rfl, by go_num, hst2⟩
    · obtain rfl : k = N := by omega
      have h1 := ha.out
      rw [← HN.out, List.take_length, H2.out] at h1
      cases h1

set_option maxRecDepth 20000 in
set_option maxHeartbeats 3200000 in
theorem rPack_ok (first : Nat) (v : Value) (L : List (List UInt8)) (w : World) (hf : first < 18446744073709551616) (hv : Rw w v L) (hn : L.length ≤ 1000000000) (h : NumOk first L.length) (h2 : anyLong L = false) :
    Calls Tryd.prog 28 #[.int .u64 (first : Int), v] w fun e w' => ∃ v', e = .returned (.tuple #[v', .int .i64 0]) ∧ Own w' 5 w.heap.size v' (packB first L) ∧ Up w w' := by
  have h200 := anyLong_false h2
  have h0 := h.1
  have hnum := rNumbered_any first L.length hf h0 (by omega) (w.alloc (.cells #[] 5))
  rw [decide_eq_true h] at hnum
  obtain ⟨ao, cap, hvv⟩ := hv.slice
  have ob := own_built w [] (by decide)
  obtain ⟨N, hN⟩ : ∃ N, L.length = N := ⟨_, rfl⟩
  have HL : Hid (Rw w v L ∧ (∀ r ∈ L, r.length ≤ 200) ∧ L.length = N ∧ NumOk first N) := ⟨hv, h200, hN, by rw [← hN]; exact h⟩
  obtain ⟨R, hR⟩ : ∃ R, packB first L = R := ⟨_, rfl⟩
  have H0 : Hid (Own (w.alloc (.cells #[] 5)) 5 w.heap.size (.slice (some ⟨w.heap.size, 0, none⟩) 0 0) [] ∧ Up w (w.alloc (.cells #[] 5)) ∧ R = [] ++ packB (first + 0) (L.drop 0) ∧ ([] : List UInt8).length ≤ 512 * 0) := ⟨ob, Up.alloc _ _, by rw [← hR]; rfl, by simp⟩
  have hb0 : first + N ≤ 4611686018427387905 := by have := h.2.2; have := h.1; omega
  rw [hR]
  rw [hN] at h0 hn hnum hvv
  subst hvv
  have hz : ((N : Int) == 0) = false := by simp; omega
  have hfi : (first : Int) + (N : Int) ≤ 4611686018427387905 := by omega
  have hNi : (N : Int) ≤ 1000000000 := by omega
  clear hN h0 h h2 h200 hv hR ob hb0
  go_enter Tryd.func28, Tryd.ntmps28
  go_wp2_with fail
  obtain ⟨wa, hwa⟩ : ∃ wa, w.alloc (.cells #[] 5) = wa := ⟨_, rfl⟩
  rw [hwa] at hnum H0 ⊢
  clear hwa
  refine hnum.mono ?_
  rintro e w1 ⟨rfl, e1⟩
  obtain rfl : wa = w1 := e1.symm
  clear hnum
  go_wp2
  go_loopg [7] N (fun g i wr => wa = wr ∧ ∃ k : Nat, k ≤ N ∧ g = N - k ∧ i = .int .i64 k)
  case atStart => exact ⟨rfl, 0, by omega, rfl, rfl⟩
  case round =>
    obtain ⟨rfl, k, hk, rfl, rfl⟩ := hrel
    by_cases hlt : k < N
    · have hlt' : k < L.length := by rw [HL.out.2.2.1]; exact hlt
      obtain ⟨b, o, cap', vi, e1, hat⟩ := HL.out.1.at k hlt'
      simp only [Value.slice.injEq] at e1
      obtain ⟨rfl, eN, rfl⟩ := e1
      clear eN
      obtain ⟨hca, hsl⟩ := hat _ H0.out.2.1
      have Hlt : Hid (k < N) := hlt
      have hm2 := HL.out.2.1 _ (List.getElem_mem hlt')
      obtain ⟨ai, ci, rfl, _⟩ := hsl
      clear hat
      obtain ⟨m, hm⟩ : ∃ m, (L[k]'hlt').length = m := ⟨_, rfl⟩
      rw [hm] at hm2 hca
      clear hm
      have hb' : ¬ (200 : Int) < (m : Int) := by omega
      clear hm2
      go_wp2
      go_roundg (N - (k + 1))
      case measure => have := Hlt.out; omega
      case rel => exact ⟨rfl, k + 1, Hlt.out, rfl, by go_num⟩
    · obtain rfl : k = N := by omega
      clear hlt hk
      go_wp2
      go_loopg [6, 8] k (fun g so fr wr => ∃ (q : Nat) (P : List UInt8), q ≤ k ∧ g = k - q ∧ fr = .int .i64 (q : Int) ∧ Hid (Own wr 5 w.heap.size so P ∧ Up w wr ∧ R = P ++ packB (first + q) (L.drop q) ∧ P.length ≤ 512 * q))
      case atStart => exact ⟨0, [], by omega, rfl, rfl, H0.out⟩
      case round =>
        clear H0
        obtain ⟨q, P, hq, rfl, rfl, HR⟩ := hrel
        obtain ⟨w5, hw5⟩ : ∃ w5, w5 = wr := ⟨_, rfl⟩
        subst hw5
        have hq0 : (0 : Int) ≤ (q : Int) := by omega
        by_cases hlt : q < k
        · have hqi : (q : Int) < (k : Int) := by omega
          have hall : ∀ r ∈ L.drop q, r.length ≤ 200 := fun r hr => HL.out.2.1 r (List.mem_of_mem_drop hr)
          have hdl : (L.drop q).length = k - q := by rw [List.length_drop, HL.out.2.2.1]
          have hne : L.drop q ≠ [] := by intro e; rw [e] at hdl; simp at hdl; omega
          have hpk := packB_step (first + q) hall hne
          have hc1 := fitN_some hall hne
          have hc2 := fitN_le 0 (L.drop q)
          have hroom := fitN_room 0 (L.drop q) (by omega)
          have hwalk := fitN_walk 0 (L.drop q)
          obtain ⟨c, hc⟩ : ∃ c, fitN 0 (L.drop q) = c := ⟨_, rfl⟩
          rw [hc] at hpk hc1 hc2 hroom hwalk
          rw [hdl] at hc2
          have HC : Hid (packB (first + q) (L.drop q) = blkB (first + q) ((L.drop q).take c) ++ packB (first + q + c) ((L.drop q).drop c) ∧ 0 < c ∧ q + c ≤ k ∧ (bodyB ((L.drop q).take c)).length ≤ 494 ∧ (∀ j, j ≤ c → (j < c ↔ ∃ h : j < (L.drop q).length, 0 + (bodyB ((L.drop q).take j)).length + 2 + ((L.drop q)[j]'h).length ≤ 494)) ∧ (L.drop q).length = k - q ∧ (∀ r ∈ L.drop q, r.length ≤ 200)) := ⟨hpk, hc1, by omega, by omega, hwalk, hdl, hall⟩
          have hlt2 : q ≤ k := hq
          clear hall hne hpk hc1 hc2 hroom hwalk hc hdl hq
          go_wp2
          go_loopg [9, 10] c (fun g tv uv wr => w5 = wr ∧ ∃ (x u : Nat), q ≤ x ∧ x ≤ q + c ∧ g = q + c - x ∧ tv = .int .i64 (x : Int) ∧ uv = .int .i64 (u : Int) ∧ (u : Int) ≤ 494 ∧ Hid (u = (bodyB ((L.drop q).take (x - q))).length))
          case atStart => exact ⟨rfl, q, 0, Nat.le_refl _, by omega, by omega, rfl, rfl, by omega, by show _ = _; rw [Nat.sub_self]; rfl⟩
          case round =>
            obtain ⟨rfl, x, u, hx1, hx2, rfl, rfl, rfl, hu, HU⟩ := hrel
            have hx0 : (0 : Int) ≤ (x : Int) := by omega
            have hu0 : (0 : Int) ≤ (u : Int) := by omega
            by_cases hxk : x < k
            · have hlt' : x < L.length := by rw [HL.out.2.2.1]; exact hxk
              obtain ⟨b, o, cap', vi, e1, hat⟩ := HL.out.1.at x hlt'
              simp only [Value.slice.injEq] at e1
              obtain ⟨rfl, eN, rfl⟩ := e1
              clear eN
              obtain ⟨hca, hsl⟩ := hat _ HR.out.2.1
              have hm2 := HL.out.2.1 _ (List.getElem_mem hlt')
              have hdx : x - q < (L.drop q).length := by rw [HC.out.2.2.2.2.2.1]; omega
              have hget : (L.drop q)[x - q]'hdx = L[x]'hlt' := by rw [List.getElem_drop]; congr 1; omega
              have hw := HC.out.2.2.2.2.1 (x - q) (by omega)
              have htk := List.take_succ_eq_append_getElem hdx
              have hbl : (bodyB ((L.drop q).take (x - q + 1))).length = u + 2 + (L[x]'hlt').length := by rw [htk, bodyB_snoc_length, hget, ← HU.out]
              have hw2 : x - q < c ↔ u + 2 + (L[x]'hlt').length ≤ 494 := by
                rw [hw]
                constructor
                · rintro ⟨h1, h2⟩; rw [← HU.out, hget] at h2; omega
                · intro h; exact ⟨hdx, by rw [← HU.out, hget]; omega⟩
              obtain ⟨ai, ci, rfl, _⟩ := hsl
              clear hat hw htk hget hdx
              obtain ⟨m, hm⟩ : ∃ m, (L[x]'hlt').length = m := ⟨_, rfl⟩
              rw [hm] at hm2 hca hbl hw2
              clear hm
              have hmi : (m : Int) ≤ 200 := by omega
              have hm0 : (0 : Int) ≤ (m : Int) := by omega
              have hxi : (x : Int) < (k : Int) := by omega
              by_cases hfit : u + 2 + m ≤ 494
              · have hd : decide ((u : Int) + 2 + (m : Int) ≤ 494) = true := by simp; omega
                have HW : Hid (x - q < c ∧ u + 2 + m = (bodyB ((L.drop q).take (x + 1 - q))).length ∧ u + 2 + m ≤ 494) := ⟨hw2.2 hfit, by rw [show x + 1 - q = x - q + 1 by omega]; exact hbl.symm, hfit⟩
                clear hw2 hbl hfit HU hm2
                go_wp2
                go_roundg (q + c - (x + 1))
                case measure => have := HW.out; omega
                case rel => exact ⟨rfl, x + 1, u + 2 + m, by omega, by have := HW.out; omega, rfl, by go_num, by go_num, by have := HW.out; omega, HW.out.2.1⟩
              · have hd : decide ((u : Int) + 2 + (m : Int) ≤ 494) = false := by simp; omega
                have hxe : x = q + c := by have := fun h => hfit (hw2.1 h); omega
                have hxk2 : x ≤ k := by omega
                clear hw2 hbl hfit hm2
                obtain ⟨v1, hr1, hcut1⟩ := rw_cut2 HL.out.1 q x hx1 (by rw [HL.out.2.2.1]; omega)
                have hl1 : ((L.drop q).take (x - q)).length = x - q := by rw [List.length_take, HC.out.2.2.2.2.2.1]; omega
                obtain ⟨a1, c1, rfl⟩ := hr1.slice
                rw [hl1] at hr1 hcut1
                have hfitB : FitB (first + q) ((L.drop q).take (x - q)) := by
                  have hnk := HL.out.2.2.2
                  have hcp := HC.out.2.1
                  refine ⟨?_, ?_, ?_, fun r hr => HC.out.2.2.2.2.2.2 r (List.mem_of_mem_take hr), ?_⟩
                  · intro e; rw [e] at hl1; simp at hl1; omega
                  · have := hnk.2.1; omega
                  · rw [hl1]; have := hnk.2.2; omega
                  · rw [show x - q = c by omega]; exact HC.out.2.2.2.1
                have henc := rEncode_ok (first + q) _ _ w5 (hr1.up HR.out.2.1) hfitB
                have hblk := blkB_length (first := first + q) hfitB.room
                have hstp := HR.out.2.2.1
                rw [HC.out.1, List.drop_drop, ← List.append_assoc, ← show x - q = c by omega] at hstp
                rw [show first + q + (x - q) = first + x by omega, show q + (x - q) = x by omega] at hstp
                obtain ⟨B1, hB1⟩ : ∃ B1, blkB (first + q) ((L.drop q).take (x - q)) = B1 := ⟨_, rfl⟩
                rw [hB1] at henc hblk hstp
                rw [Int.natCast_add] at henc
                have HX : Hid (R = (P ++ B1) ++ packB (first + x) (L.drop x) ∧ q < x ∧ x ≤ k ∧ B1.length = 512) := ⟨hstp, by have := HC.out.2.1; omega, hxk2, hblk⟩
                obtain ⟨pv, pc, hpv⟩ := HR.out.1.sl.slice
                have hP := HR.out.2.2.2
                have hki : (first : Int) + (q : Int) ≤ 4611686018427387905 := by omega
                clear hfitB hstp hblk hB1 hl1 hr1 HC hxe HU
                go_wp2_with fail
                refine henc.mono ?_
                rintro e w6 ⟨v3, rfl, o3, u3⟩
                clear henc
                have hB := HX.out.2.2.2
                have s3 := o3.sl
                obtain ⟨b3, p3, c3, rfl⟩ := s3.some (by intro e; rw [e] at hB; simp at hB)
                have ho2 := ownsRow_up HR.out.1 u3
                have hsz : w.heap.size ≤ w6.heap.size := (HR.out.2.1.trans u3).size
                have hB8 : P.length + B1.length ≤ 200000000000000 := by rw [hB]; omega
                go_wp2_with (at_builtin; refine wpList_bytes _ rfl (.tmp 80) (.tmp 81) rfl w.heap.size w5.heap.size _ P B1 (by rw [hpv]; rfl) ⟨b3, p3, none⟩ c3 (by rw [hB]; rfl) ho2 s3 hsz hB8 ?_)
                intro v' w' ho' hg'
                have hup' : Up w w' := grown_up (HR.out.2.1.trans u3) hg' (fun z hz => (World.ownsRow.lt HR.out.1 z (by rw [hpv]; exact hz)).1)
                have H7 : Hid (Own w' 5 w.heap.size v' (P ++ B1) ∧ Up w w' ∧ R = (P ++ B1) ++ packB (first + x) (L.drop x) ∧ (P ++ B1).length ≤ 512 * x) := ⟨ho', hup', HX.out.1, by rw [List.length_append, hB]; have := HX.out.2.1; omega⟩
                clear ho' hg' hup' ho2 s3 o3 hsz u3 hB hB8 hcut1 HR hpv hP
                go_wp2
                go_roundg (k - x)
                case measure => have := HX.out; omega
                case rel => exact ⟨x, P ++ B1, HX.out.2.2.1, rfl, rfl, H7⟩
            · have hxe : x = q + c := by have := HC.out.2.2.1; omega
              have hxk2 : x ≤ k := by have := HC.out.2.2.1; omega
              have hxi : ¬ (x : Int) < (k : Int) := by omega
              obtain ⟨v1, hr1, hcut1⟩ := rw_cut2 HL.out.1 q x hx1 (by rw [HL.out.2.2.1]; omega)
              have hl1 : ((L.drop q).take (x - q)).length = x - q := by rw [List.length_take, HC.out.2.2.2.2.2.1]; omega
              obtain ⟨a1, c1, rfl⟩ := hr1.slice
              rw [hl1] at hr1 hcut1
              have hfitB : FitB (first + q) ((L.drop q).take (x - q)) := by
                have hnk := HL.out.2.2.2
                have hcp := HC.out.2.1
                refine ⟨?_, ?_, ?_, fun r hr => HC.out.2.2.2.2.2.2 r (List.mem_of_mem_take hr), ?_⟩
                · intro e; rw [e] at hl1; simp at hl1; omega
                · have := hnk.2.1; omega
                · rw [hl1]; have := hnk.2.2; omega
                · rw [show x - q = c by omega]; exact HC.out.2.2.2.1
              have henc := rEncode_ok (first + q) _ _ w5 (hr1.up HR.out.2.1) hfitB
              have hblk := blkB_length (first := first + q) hfitB.room
              have hstp := HR.out.2.2.1
              rw [HC.out.1, List.drop_drop, ← List.append_assoc, ← show x - q = c by omega] at hstp
              rw [show first + q + (x - q) = first + x by omega, show q + (x - q) = x by omega] at hstp
              obtain ⟨B1, hB1⟩ : ∃ B1, blkB (first + q) ((L.drop q).take (x - q)) = B1 := ⟨_, rfl⟩
              rw [hB1] at henc hblk hstp
              rw [Int.natCast_add] at henc
              have HX : Hid (R = (P ++ B1) ++ packB (first + x) (L.drop x) ∧ q < x ∧ x ≤ k ∧ B1.length = 512) := ⟨hstp, by have := HC.out.2.1; omega, hxk2, hblk⟩
              obtain ⟨pv, pc, hpv⟩ := HR.out.1.sl.slice
              have hP := HR.out.2.2.2
              have hki : (first : Int) + (q : Int) ≤ 4611686018427387905 := by omega
              clear hfitB hstp hblk hB1 hl1 hr1 HC hxe HU
              go_wp2_with fail
              refine henc.mono ?_
              rintro e w6 ⟨v3, rfl, o3, u3⟩
              clear henc
              have hB := HX.out.2.2.2
              have s3 := o3.sl
              obtain ⟨b3, p3, c3, rfl⟩ := s3.some (by intro e; rw [e] at hB; simp at hB)
              have ho2 := ownsRow_up HR.out.1 u3
              have hsz : w.heap.size ≤ w6.heap.size := (HR.out.2.1.trans u3).size
              have hB8 : P.length + B1.length ≤ 200000000000000 := by rw [hB]; omega
              go_wp2_with (at_builtin; refine wpList_bytes _ rfl (.tmp 80) (.tmp 81) rfl w.heap.size w5.heap.size _ P B1 (by rw [hpv]; rfl) ⟨b3, p3, none⟩ c3 (by rw [hB]; rfl) ho2 s3 hsz hB8 ?_)
              intro v' w' ho' hg'
              have hup' : Up w w' := grown_up (HR.out.2.1.trans u3) hg' (fun z hz => (World.ownsRow.lt HR.out.1 z (by rw [hpv]; exact hz)).1)
              have H7 : Hid (Own w' 5 w.heap.size v' (P ++ B1) ∧ Up w w' ∧ R = (P ++ B1) ++ packB (first + x) (L.drop x) ∧ (P ++ B1).length ≤ 512 * x) := ⟨ho', hup', HX.out.1, by rw [List.length_append, hB]; have := HX.out.2.1; omega⟩
              clear ho' hg' hup' ho2 s3 o3 hsz u3 hB hB8 hcut1 HR hpv hP
              go_wp2
              go_roundg (k - x)
              case measure => have := HX.out; omega
              case rel => exact ⟨x, P ++ B1, HX.out.2.2.1, rfl, rfl, H7⟩
        · obtain rfl : q = k := by omega
          have hR := HR.out.2.2.1
          have hnil : L.drop q = [] := List.drop_eq_nil_of_le (by rw [HL.out.2.2.1]; omega)
          rw [hnil, packB_nil, List.append_nil] at hR
          subst hR
          have hF := HR.out
          clear HR hlt
          go_wp2
          go_ret2
          exact ⟨_, rfl, hF.1, hF.2.1⟩

/-- The number of the reference's answer. -/
def rpkF (first : Nat) (L : List Rec) : Nat := if L = [] then 0 else if NumOk first L.length then (if anyLong L = true then 4 else 0) else 1
theorem rPack_any (first : Nat) (v : Value) (L : List (List UInt8)) (w : World) (hf : first < 18446744073709551616) (hv : Rw w v L) (hn : L.length ≤ 1000000000) :
    Calls Tryd.prog 28 #[.int .u64 (first : Int), v] w fun e w' => ∃ v', e = .returned (.tuple #[v', .int .i64 (rpkF first L : Nat)]) ∧ Own w' 5 w.heap.size v' (pkR first L) ∧ Up w w' := by
  by_cases h0 : L = []
  · subst h0
    have e : pkR first [] = [] := by unfold pkR; split <;> rfl
    rw [e]
    simp only [rpkF, if_true]
    exact rPack_none first v w hv
  · have hl : 0 < L.length := List.length_pos_iff.2 h0
    by_cases h1 : NumOk first L.length
    · by_cases h2 : anyLong L = true
      · have e : pkR first L = [] := by unfold pkR; rw [if_neg]; simp [h2]
        have e2 : rpkF first L = 4 := by unfold rpkF; rw [if_neg h0, if_pos h1, if_pos h2]
        rw [e, e2]
        refine (rPack_long first v L w hf hv (by omega) h1 h2).mono ?_
        rintro e w' ⟨rfl, hu⟩
        exact ⟨_, rfl, Own.nil _ _ _, hu⟩
      · have h2' : anyLong L = false := by simpa using h2
        have e : pkR first L = packB first L := by unfold pkR; rw [if_pos ⟨h1, h2'⟩]
        have e2 : rpkF first L = 0 := by unfold rpkF; rw [if_neg h0, if_pos h1, if_neg h2]
        rw [e, e2]
        exact rPack_ok first v L w hf hv hn h1 h2'
    · have e : pkR first L = [] := by unfold pkR; rw [if_neg (fun h => h1 h.1)]
      have e2 : rpkF first L = 1 := by unfold rpkF; rw [if_neg h0, if_neg h1]
      rw [e, e2]
      refine (rPack_arg first v L w hf hv (by omega) hl h1).mono ?_
      rintro e w' ⟨rfl, hu⟩
      exact ⟨_, rfl, Own.nil _ _ _, hu⟩
end Go.Proofs.YtoljalolfdnghaaDoor
