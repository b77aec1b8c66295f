/- Merged: BkPk. -/
import Derived.Test.YtkfjkfpodkbkaaaDoorMk30
set_option linter.unusedVariables false
set_option linter.unusedSimpArgs false
namespace Go.Proofs.YtkfjkfpodkbkaaaDoor
open Go Go.RowKit

theorem elem_rows : Tryd.prog.elem 23 = 27 := by kernel_rfl
theorem size_sl (u : World) : (sizeOf 27).run Tryd.prog u = .ok 1 u := by
  obtain ⟨i0, hi, hz0, hz1, hz2⟩ := info_parts Tryd.infoSl
  simp [sizeOf, typeInfo, hi, hz1]
theorem rw_cut {w : World} {v : Value} {L : List (List UInt8)} (hs : Rw w v L) (l h : Nat) (hl : l ≤ h) (hh : h ≤ L.length) :
    ∃ v', Rw w v' ((L.drop l).take (h - l)) ∧
      (l = 0 → ∀ u, (Instr.slice 23 v none (some (.int .i64 (h : Int))) none).run Tryd.prog u = .ok v' u) ∧
      (h = L.length → ∀ u, (Instr.slice 23 v (some (.int .i64 (l : Int))) none none).run Tryd.prog u = .ok v' u) := by
  obtain ⟨ao, cap, rfl, hc, hx⟩ := hs
  have hu : Tryd.prog.underlying 23 = some (.slice (Tryd.prog.elem 23)) := by rw [elem_rows]; exact Tryd.underlying23
  refine ⟨sliced ao l h cap 1, ?_, ?_, ?_⟩
  · refine ⟨if cap = l then ao else ao.map (·.add (l * 1)), cap - l, ?_, ?_, ?_⟩
    · simp [sliced]; omega
    · simp; omega
    · intro hne
      have hb : L ≠ [] := by rintro rfl; simp at hne
      obtain ⟨b, o, rfl, ha⟩ := hx hb
      have hlt : l < h := by
        rcases Nat.lt_or_ge l h with h1 | h1
        · exact h1
        · exact absurd (by rw [show h - l = 0 by omega]; simp) hne
      rw [if_neg (by omega)]
      refine ⟨b, o + l, by simp [Addr.add_lit], ?_⟩
      intro i hi
      have hi' : i < h - l ∧ l + i < L.length := by simp at hi; omega
      obtain ⟨vi, h1, h2⟩ := ha (l + i) hi'.2
      exact ⟨vi, by rw [Nat.add_assoc]; exact h1, by simpa using h2⟩
  · rintro rfl u
    rw [run_slice_h u 23 ao _ cap hu .i64 _ (by omega) (by omega), elem_rows, size_sl]
    simp [Result.andThen]
  · rintro rfl u
    rw [run_slice_l u 23 ao _ cap hu .i64 _ (by omega) (by omega), elem_rows, size_sl]
    simp [Result.andThen]
theorem Rw.slice {w : World} {v : Value} {L : List (List UInt8)} (h : Rw w v L) : ∃ ao cap, v = .slice ao L.length cap := by
  obtain ⟨ao, cap, rfl, _⟩ := h
  exact ⟨ao, cap, rfl⟩

/-- Nothing is packed. -/
theorem Pack_none (first : Nat) (v : Value) (w : World) (hv : Rw w v []) :
    Calls Tryd.prog 7 #[.int .u64 (first : Int), v] w fun e w' => e = .returned (.tuple #[.slice none 0 0, .nilIface]) ∧ Up w w' := by
  obtain ⟨ao, cap, rfl, _⟩ := hv
  go_enter Tryd.func7, Tryd.ntmps7
  go_wp2
  go_ret2
  exact ⟨rfl, Up.refl _⟩
theorem Pack_arg (first : Nat) (v : Value) (L : List (List UInt8)) (w : World) (ad : Nat → Addr) (hg : GlS w ad) (hf : first < 18446744073709551616) (hv : Rw w v L) (hn : L.length ≤ 140737488355328) (h0 : 0 < L.length) (h : ¬ NumOk first L.length) :
    Calls Tryd.prog 7 #[.int .u64 (first : Int), v] w fun e w' => e = .returned (.tuple #[.slice none 0 0, eArg ad]) ∧ Up w w' := by
  have hc := (hg _ (by simp : (0 : Nat) ∈ blkErrs)).cell
  obtain ⟨ao, cap, rfl, _⟩ := hv
  have hnum := numbersHold_any first L.length hf (by omega) w
  rw [decide_eq_false h] at hnum
  clear h
  obtain ⟨N, hN⟩ : ∃ N, L.length = N := ⟨_, rfl⟩
  rw [hN] at h0 hn hnum ⊢
  have hz : ((N : Int) == 0) = false := by simp; omega
  clear hN h0
  go_enter Tryd.func7, Tryd.ntmps7
  go_wp2_with fail
  refine hnum.mono ?_
  rintro e w1 ⟨rfl, rfl⟩
  clear hnum
  go_wp2
  go_quiet (fail)
  go_wp2
  go_ret2
  exact ⟨rfl, up_drewN _ _⟩
theorem Pack_long (first : Nat) (v : Value) (L : List (List UInt8)) (w : World) (ad : Nat → Addr) (hg : GlS w ad) (hf : first < 18446744073709551616) (hv : Rw w v L) (hn : L.length ≤ 140737488355328) (h : NumOk first L.length) (h2 : anyLong L = true) :
    Calls Tryd.prog 7 #[.int .u64 (first : Int), v] w fun e w' => e = .returned (.tuple #[.slice none 0 0, eLong ad]) ∧ Up w w' := by
  have hc := (hg _ (by simp : (1 : Nat) ∈ blkErrs)).cell
  have hlong := anyTooLong_any v L w hv hn
  rw [h2] at hlong
  obtain ⟨ao, cap, rfl, _⟩ := hv
  have hnum := numbersHold_any first L.length hf (by omega) w
  rw [decide_eq_true h] at hnum
  have h0 := h.1
  clear h h2
  obtain ⟨N, hN⟩ : ∃ N, L.length = N := ⟨_, rfl⟩
  rw [hN] at h0 hn hnum hlong ⊢
  have hz : ((N : Int) == 0) = false := by simp; omega
  clear hN h0
  go_enter Tryd.func7, Tryd.ntmps7
  go_wp2_with fail
  refine hnum.mono ?_
  rintro e w1 ⟨rfl, rfl⟩
  clear hnum
  go_wp2_with fail
  refine hlong.mono ?_
  rintro e w1 ⟨rfl, rfl⟩
  clear hlong
  go_wp2
  go_quiet (fail)
  go_wp2
  go_ret2
  exact ⟨rfl, up_drewN _ _⟩

set_option maxRecDepth 20000 in
set_option maxHeartbeats 1600000 in
theorem Pack_ok (first : Nat) (v : Value) (L : List (List UInt8)) (w : World) (ht : Tb w) (hf : first < 18446744073709551616) (hv : Rw w v L) (hn : L.length ≤ 1000000000) (h : NumOk first L.length) (h2 : anyLong L = false) :
    Calls Tryd.prog 7 #[.int .u64 (first : Int), v] w fun e w' => ∃ v', e = .returned (.tuple #[v', .nilIface]) ∧ Own w' 5 w.heap.size v' (packB first L) ∧ Up w w' := by
  have h200 := anyLong_false h2
  have hlong := anyTooLong_any v L w hv (by omega)
  rw [h2] at hlong
  obtain ⟨ao, cap, rfl⟩ := hv.slice
  have hnum := numbersHold_any first L.length hf (by omega) w
  rw [decide_eq_true h] at hnum
  have h0 := h.1
  obtain ⟨N, hN⟩ : ∃ N, L.length = N := ⟨_, rfl⟩
  have HL : Hid (Rw w (.slice ao N cap) L ∧ Tb w ∧ (∀ r ∈ L, r.length ≤ 200) ∧ L.length = N ∧ NumOk first N) := ⟨by rw [← hN]; exact hv, ht, h200, hN, by rw [← hN]; exact h⟩
  obtain ⟨R, hR⟩ : ∃ R, packB first L = R := ⟨_, rfl⟩
  have H0 : Hid (Own w 5 w.heap.size (.slice none 0 0) [] ∧ Up w w ∧ Rw w (.slice ao N cap) (L.drop 0) ∧ R = [] ++ packB (first + 0) (L.drop 0) ∧ ([] : List UInt8).length ≤ 512 * 0) := ⟨Own.nil _ _ _, Up.refl _, by rw [List.drop_zero]; exact HL.out.1, by rw [← hR]; rfl, by simp⟩
  have hb0 : first + N ≤ 4611686018427387905 := by have := h.2.2; have := h.1; omega
  rw [hR]
  rw [hN] at h0 hn hnum hlong ⊢
  have hz : ((N : Int) == 0) = false := by simp; omega
  clear hN h0 h h2 h200 ht hv hR
  go_enter Tryd.func7, Tryd.ntmps7
  go_wp2_with fail
  refine hnum.mono ?_
  rintro e w1 ⟨rfl, e1⟩
  obtain rfl : w = w1 := e1.symm
  clear hnum
  go_wp2_with fail
  refine hlong.mono ?_
  rintro e w1 ⟨rfl, e1⟩
  obtain rfl : w = w1 := e1.symm
  clear hlong
  go_wp2
  have hfi : (first : Int) + (N : Int) ≤ 4611686018427387905 := by omega
  clear hb0
  go_loopg [0, 6, 7, 8] N (fun g vf vb vr vc wr => ∃ (k m : Nat) (P : List UInt8) (ar : Option Addr) (cr : Nat), k + m = N ∧ m = g ∧ vf = .int .u64 ((first + k : Nat) : Int) ∧ vr = .slice ar m cr ∧ Hid (Own wr 5 w.heap.size vb P ∧ Up w wr ∧ Rw w (.slice ar m cr) (L.drop k) ∧ R = P ++ packB (first + k) (L.drop k) ∧ P.length ≤ 512 * k))
  case atStart => exact ⟨0, N, [], ao, cap, by omega, rfl, rfl, rfl, H0⟩
  case round =>
    clear H0
    obtain ⟨k, m, P, ar, cr, hkm, rfl, rfl, rfl, HR⟩ := hrel
    by_cases hm : 0 < m
    · obtain ⟨hrw0, htb, h2, hN, hnum⟩ := HL.out
      obtain ⟨ho, hup, hrw, hR, hpl⟩ := HR.out
      have hdl : (L.drop k).length = m := by rw [List.length_drop, hN]; omega
      have hall : ∀ r ∈ L.drop k, r.length ≤ 200 := fun r hr => h2 r (List.mem_of_mem_drop hr)
      have hne : L.drop k ≠ [] := by intro e; rw [e] at hdl; simp at hdl; omega
      have hfit := fitting_any (.slice ar m cr) (L.drop k) wr (hrw.up hup) (by rw [hdl]; omega) hall
      obtain ⟨c, hc⟩ : ∃ c, fitN 0 (L.drop k) = c := ⟨_, rfl⟩
      have hc1 := fitN_some hall hne
      have hc2 := fitN_le 0 (L.drop k)
      have hroom := fitN_room 0 (L.drop k) (by omega)
      have hpk := packB_step (first + k) hall hne
      rw [hc] at hfit hc1 hc2 hroom hpk
      rw [hdl] at hc2
      obtain ⟨v1, hr1, hcut1, _⟩ := rw_cut hrw 0 c (Nat.zero_le _) (by rw [hdl]; exact hc2)
      have hcut1 := hcut1 rfl
      rw [List.drop_zero, Nat.sub_zero] at hr1
      have hl1 : ((L.drop k).take c).length = c := by rw [List.length_take, hdl]; omega
      obtain ⟨a1, c1, rfl⟩ := hr1.slice
      obtain ⟨v2, hr2, _, hcut2⟩ := rw_cut hrw c m hc2 (by rw [hdl]; omega)
      have hcut2 := hcut2 hdl.symm
      rw [List.take_of_length_le (by rw [List.length_drop, hdl]; omega), List.drop_drop] at hr2
      have hl2 : (L.drop (k + c)).length = m - c := by rw [List.length_drop, hN]; omega
      obtain ⟨a2, c2, rfl⟩ := hr2.slice
      rw [hl1] at hr1 hcut1
      rw [hl2] at hr2 hcut2
      have hbuild := build_any (first + k) (.slice a1 c c1) ((L.drop k).take c) wr (htb.up hup) (by omega) (hr1.up hup) (by rw [hl1]; omega) (fun r hr => hall r (List.mem_of_mem_take hr)) (by omega)
      have hblk : (blkB (first + k) ((L.drop k).take c)).length = 512 := blkB_length (by omega)
      have H5 : Hid (R = (P ++ blkB (first + k) ((L.drop k).take c)) ++ packB (first + (k + c)) (L.drop (k + c)) ∧ (P ++ blkB (first + k) ((L.drop k).take c)).length ≤ 512 * (k + c)) := by
        refine ⟨?_, ?_⟩
        · rw [hR, hpk, List.drop_drop, List.append_assoc, Nat.add_assoc]
        · rw [List.length_append, hblk]; omega
      obtain ⟨B1, hB1⟩ : ∃ B1, blkB (first + k) ((L.drop k).take c) = B1 := ⟨_, rfl⟩
      rw [hB1] at hbuild hblk H5
      have H6 : Hid (Rw w (.slice a2 (m - c) c2) (L.drop (k + c)) ∧ Up w wr ∧ Own wr 5 w.heap.size u6 P ∧ P.length ≤ 512 * k ∧ B1.length = 512) := ⟨hr2, hup, ho, hpl, hblk⟩
      have hmi : (0 : Int) < (m : Int) := by omega
      have hci : (c : Int) ≤ (m : Int) := by omega
      have hc0 : (0 : Int) < (c : Int) := by omega
      have hki : (first : Int) + (k : Int) + (c : Int) ≤ 4611686018427387905 := by omega
      have HA : Hid (0 < c ∧ c ≤ m ∧ k + m = N ∧ N ≤ 1000000000) := ⟨hc1, hc2, hkm, hn⟩
      obtain ⟨pv, pc, hpv⟩ := ho.sl.slice
      clear hR hpk hroom hall hne h2 hrw0 htb hN hnum hdl hc hc1 hc2 hl1 hl2 hr1 hr2 hrw hpl hblk hB1 HR hup ho hkm hm
      go_wp2_with fail
      refine hfit.mono ?_
      rintro e w1 ⟨rfl, e1⟩
      obtain rfl : wr = w1 := e1.symm
      clear hfit
      go_wp2_with fail
      refine hbuild.mono ?_
      rintro e w2 ⟨v3, rfl, o3, u3⟩
      clear hbuild
      have hB := H6.out.2.2.2.2
      have s3 := o3.sl
      obtain ⟨b3, p3, c3, rfl⟩ := s3.some (by intro e; rw [e] at hB; simp at hB)
      obtain ⟨_, hup, ho, hpl, _⟩ := H6.out
      have ho2 := ownsRow_up ho u3
      have hsz := hup.size
      have hsz2 := u3.size
      go_wp2_with (at_builtin; refine wpList_bytes _ rfl (.tmp 27) (.tmp 32) rfl w.heap.size wr.heap.size _ P B1 (by rw [hpv]; rfl) ⟨b3, p3, none⟩ c3 (by rw [hB]; rfl) ho2 s3 (by omega) (by have := HA.out; omega) ?_)
      intro v' w' ho' hg'
      have hup' : Up w w' := grown_up (hup.trans u3) hg' (fun x hx => (World.ownsRow.lt ho x (by rw [hpv]; exact hx)).1)
      have H7 : Hid (Own w' 5 w.heap.size v' (P ++ B1) ∧ Up w w' ∧ Rw w (.slice a2 (m - c) c2) (L.drop (k + c)) ∧ R = (P ++ B1) ++ packB (first + (k + c)) (L.drop (k + c)) ∧ (P ++ B1).length ≤ 512 * (k + c)) := ⟨ho', hup', H6.out.1, H5.out⟩
      clear H5 H6 ho' hg' hup' ho2 s3 o3 hpl ho hup hsz hsz2 u3 hB hcut1
      go_wp2
      go_roundg (m - c)
      case measure => have := HA.out; omega
      case rel => exact ⟨k + c, m - c, P ++ B1, a2, c2, by have := HA.out; omega, rfl, by simp only [Int.natCast_add]; rw [Int.add_assoc], rfl, H7⟩
    · obtain rfl : m = 0 := by omega
      obtain ⟨ho, hup, hrw, hR, hpl⟩ := HR.out
      have hnil : L.drop k = [] := List.drop_eq_nil_of_le (by rw [HL.out.2.2.2.1]; omega)
      rw [hnil, packB_nil, List.append_nil] at hR
      subst hR
      clear hrw hnil HR HL hpl hm
      go_wp2
      go_ret2
      exact ⟨_, rfl, ho, hup⟩

/-- What Pack answers: the error, or the blocks. -/
def pkE (ad : Nat → Addr) (first : Nat) (L : List Rec) : Value := if L = [] then .nilIface else if NumOk first L.length then (if anyLong L = true then eLong ad else .nilIface) else eArg ad
def pkR (first : Nat) (L : List Rec) : List UInt8 := if NumOk first L.length ∧ anyLong L = false then packB first L else []
theorem Pack_any (first : Nat) (v : Value) (L : List (List UInt8)) (w : World) (ad : Nat → Addr) (ht : Tb w) (hg : GlS w ad) (hf : first < 18446744073709551616) (hv : Rw w v L) (hn : L.length ≤ 1000000000) :
    Calls Tryd.prog 7 #[.int .u64 (first : Int), v] w fun e w' => ∃ v', e = .returned (.tuple #[v', pkE ad first L]) ∧ Own w' 5 w.heap.size v' (pkR first L) ∧ Up w w' := by
  by_cases h0 : L = []
  · subst h0
    have e : pkR first [] = [] := by unfold pkR; split <;> rfl
    rw [e]
    simp only [pkE, if_true]
    refine (Pack_none first v w hv).mono ?_
    rintro e w' ⟨rfl, hu⟩
    exact ⟨_, rfl, Own.nil _ _ _, hu⟩
  · have hl : 0 < L.length := List.length_pos_iff.2 h0
    by_cases h1 : NumOk first L.length
    · by_cases h2 : anyLong L = true
      · have e : pkR first L = [] := by unfold pkR; rw [if_neg]; simp [h2]
        have e2 : pkE ad first L = eLong ad := by unfold pkE; rw [if_neg h0, if_pos h1, if_pos h2]
        rw [e, e2]
        refine (Pack_long first v L w ad hg hf hv (by omega) h1 h2).mono ?_
        rintro e w' ⟨rfl, hu⟩
        exact ⟨_, rfl, Own.nil _ _ _, hu⟩
      · have h2' : anyLong L = false := by simpa using h2
        have e : pkR first L = packB first L := by unfold pkR; rw [if_pos ⟨h1, h2'⟩]
        have e2 : pkE ad first L = .nilIface := by unfold pkE; rw [if_neg h0, if_pos h1, if_neg h2]
        rw [e, e2]
        exact Pack_ok first v L w ht hf hv hn h1 h2'
    · have e : pkR first L = [] := by unfold pkR; rw [if_neg (fun h => h1 h.1)]
      have e2 : pkE ad first L = eArg ad := by unfold pkE; rw [if_neg h0, if_neg h1]
      rw [e, e2]
      refine (Pack_arg first v L w ad hg hf hv (by omega) hl h1).mono ?_
      rintro e w' ⟨rfl, hu⟩
      exact ⟨_, rfl, Own.nil _ _ _, hu⟩
end Go.Proofs.YtkfjkfpodkbkaaaDoor
