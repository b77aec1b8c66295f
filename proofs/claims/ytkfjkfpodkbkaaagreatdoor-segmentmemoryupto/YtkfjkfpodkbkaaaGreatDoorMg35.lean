/- Merged: BkPk, BkScan. -/
import Derived.Test.YtkfjkfpodkbkaaaGreatDoorMg33
import Derived.Test.YtkfjkfpodkbkaaaGreatDoorMg34
set_option linter.unusedVariables false
set_option linter.unusedSimpArgs false
namespace Go.Proofs.YtkfjkfpodkbkaaaGreatDoor
open Go Go.RowKit

theorem elem_rows : Tryz.prog.elem 44 = 60 := by kernel_rfl
theorem size_sl (u : World) : (sizeOf 60).run Tryz.prog u = .ok 1 u := by
  obtain ⟨i0, hi, hz0, hz1, hz2⟩ := info_parts Tryz.infoSl
  simp [sizeOf, typeInfo, hi, hz1]
theorem rw_cut {w : World} {v : Value} {L : List (List UInt8)} (hs : Rw w v L) (l h : Nat) (hl : l ≤ h) (hh : h ≤ L.length) :
    ∃ v', Rw w v' ((L.drop l).take (h - l)) ∧
      (l = 0 → ∀ u, (Instr.slice 44 v none (some (.int .i64 (h : Int))) none).run Tryz.prog u = .ok v' u) ∧
      (h = L.length → ∀ u, (Instr.slice 44 v (some (.int .i64 (l : Int))) none none).run Tryz.prog u = .ok v' u) := by
  obtain ⟨ao, cap, rfl, hc, hx⟩ := hs
  have hu : Tryz.prog.underlying 44 = some (.slice (Tryz.prog.elem 44)) := by rw [elem_rows]; exact Tryz.underlying44
  refine ⟨sliced ao l h cap 1, ?_, ?_, ?_⟩
  · refine ⟨if cap = l then ao else ao.map (·.add (l * 1)), cap - l, ?_, ?_, ?_⟩
    · simp [sliced]; omega
    · simp; omega
    · intro hne
      have hb : L ≠ [] := by rintro rfl; simp at hne
      obtain ⟨b, o, rfl, ha⟩ := hx hb
      have hlt : l < h := by
        rcases Nat.lt_or_ge l h with h1 | h1
        · exact h1
        · exact absurd (by rw [show h - l = 0 by omega]; simp) hne
      rw [if_neg (by omega)]
      refine ⟨b, o + l, by simp [Addr.add_lit], ?_⟩
      intro i hi
      have hi' : i < h - l ∧ l + i < L.length := by simp at hi; omega
      obtain ⟨vi, h1, h2⟩ := ha (l + i) hi'.2
      exact ⟨vi, by rw [Nat.add_assoc]; exact h1, by simpa using h2⟩
  · rintro rfl u
    rw [run_slice_h u 44 ao _ cap hu .i64 _ (by omega) (by omega), elem_rows, size_sl]
    simp [Result.andThen]
  · rintro rfl u
    rw [run_slice_l u 44 ao _ cap hu .i64 _ (by omega) (by omega), elem_rows, size_sl]
    simp [Result.andThen]
theorem Rw.slice {w : World} {v : Value} {L : List (List UInt8)} (h : Rw w v L) : ∃ ao cap, v = .slice ao L.length cap := by
  obtain ⟨ao, cap, rfl, _⟩ := h
  exact ⟨ao, cap, rfl⟩

/-- Nothing is packed. -/
theorem Pack_none (first : Nat) (v : Value) (w : World) (hv : Rw w v []) :
    Calls Tryz.prog 24 #[.int .u64 (first : Int), v] w fun e w' => e = .returned (.tuple #[.slice none 0 0, .nilIface]) ∧ Up w w' := by
  obtain ⟨ao, cap, rfl, _⟩ := hv
  go_enter Tryz.func24, Tryz.ntmps24
  go_wp2
  go_ret2
  exact ⟨rfl, Up.refl _⟩
theorem Pack_arg (first : Nat) (v : Value) (L : List (List UInt8)) (w : World) (ad : Nat → Addr) (hg : GlS w ad) (hf : first < 18446744073709551616) (hv : Rw w v L) (hn : L.length ≤ 140737488355328) (h0 : 0 < L.length) (h : ¬ NumOk first L.length) :
    Calls Tryz.prog 24 #[.int .u64 (first : Int), v] w fun e w' => e = .returned (.tuple #[.slice none 0 0, eArg ad]) ∧ Up w w' := by
  have hc := (hg _ (by simp : (2 : Nat) ∈ blkErrs)).cell
  obtain ⟨ao, cap, rfl, _⟩ := hv
  have hnum := numbersHold_any first L.length hf (by omega) w
  rw [decide_eq_false h] at hnum
  clear h
  obtain ⟨N, hN⟩ : ∃ N, L.length = N := ⟨_, rfl⟩
  rw [hN] at h0 hn hnum ⊢
  have hz : ((N : Int) == 0) = false := by simp; omega
  clear hN h0
  go_enter Tryz.func24, Tryz.ntmps24
  go_wp2_with fail
  refine hnum.mono ?_
  rintro e w1 ⟨rfl, rfl⟩
  clear hnum
  go_wp2
  go_quiet (fail)
  go_wp2
  go_ret2
  exact ⟨rfl, up_drewN _ _⟩
theorem Pack_long (first : Nat) (v : Value) (L : List (List UInt8)) (w : World) (ad : Nat → Addr) (hg : GlS w ad) (hf : first < 18446744073709551616) (hv : Rw w v L) (hn : L.length ≤ 140737488355328) (h : NumOk first L.length) (h2 : anyLong L = true) :
    Calls Tryz.prog 24 #[.int .u64 (first : Int), v] w fun e w' => e = .returned (.tuple #[.slice none 0 0, eLong ad]) ∧ Up w w' := by
  have hc := (hg _ (by simp : (3 : Nat) ∈ blkErrs)).cell
  have hlong := anyTooLong_any v L w hv hn
  rw [h2] at hlong
  obtain ⟨ao, cap, rfl, _⟩ := hv
  have hnum := numbersHold_any first L.length hf (by omega) w
  rw [decide_eq_true h] at hnum
  have h0 := h.1
  clear h h2
  obtain ⟨N, hN⟩ : ∃ N, L.length = N := ⟨_, rfl⟩
  rw [hN] at h0 hn hnum hlong ⊢
  have hz : ((N : Int) == 0) = false := by simp; omega
  clear hN h0
  go_enter Tryz.func24, Tryz.ntmps24
  go_wp2_with fail
  refine hnum.mono ?_
  rintro e w1 ⟨rfl, rfl⟩
  clear hnum
  go_wp2_with fail
  refine hlong.mono ?_
  rintro e w1 ⟨rfl, rfl⟩
  clear hlong
  go_wp2
  go_quiet (fail)
  go_wp2
  go_ret2
  exact ⟨rfl, up_drewN _ _⟩

set_option maxRecDepth 20000 in
set_option maxHeartbeats 1600000 in
theorem Pack_ok (first : Nat) (v : Value) (L : List (List UInt8)) (w : World) (ht : Tb w) (hf : first < 18446744073709551616) (hv : Rw w v L) (hn : L.length ≤ 1000000000) (h : NumOk first L.length) (h2 : anyLong L = false) :
    Calls Tryz.prog 24 #[.int .u64 (first : Int), v] w fun e w' => ∃ v', e = .returned (.tuple #[v', .nilIface]) ∧ Own w' 5 w.heap.size v' (packB first L) ∧ Up w w' := by
  have h200 := anyLong_false h2
  have hlong := anyTooLong_any v L w hv (by omega)
  rw [h2] at hlong
  obtain ⟨ao, cap, rfl⟩ := hv.slice
  have hnum := numbersHold_any first L.length hf (by omega) w
  rw [decide_eq_true h] at hnum
  have h0 := h.1
  obtain ⟨N, hN⟩ : ∃ N, L.length = N := ⟨_, rfl⟩
  have HL : Hid (Rw w (.slice ao N cap) L ∧ Tb w ∧ (∀ r ∈ L, r.length ≤ 200) ∧ L.length = N ∧ NumOk first N) := ⟨by rw [← hN]; exact hv, ht, h200, hN, by rw [← hN]; exact h⟩
  obtain ⟨R, hR⟩ : ∃ R, packB first L = R := ⟨_, rfl⟩
  have H0 : Hid (Own w 5 w.heap.size (.slice none 0 0) [] ∧ Up w w ∧ Rw w (.slice ao N cap) (L.drop 0) ∧ R = [] ++ packB (first + 0) (L.drop 0) ∧ ([] : List UInt8).length ≤ 512 * 0) := ⟨Own.nil _ _ _, Up.refl _, by rw [List.drop_zero]; exact HL.out.1, by rw [← hR]; rfl, by simp⟩
  have hb0 : first + N ≤ 4611686018427387905 := by have := h.2.2; have := h.1; omega
  rw [hR]
  rw [hN] at h0 hn hnum hlong ⊢
  have hz : ((N : Int) == 0) = false := by simp; omega
  clear hN h0 h h2 h200 ht hv hR
  go_enter Tryz.func24, Tryz.ntmps24
  go_wp2_with fail
  refine hnum.mono ?_
  rintro e w1 ⟨rfl, e1⟩
  obtain rfl : w = w1 := e1.symm
  clear hnum
  go_wp2_with fail
  refine hlong.mono ?_
  rintro e w1 ⟨rfl, e1⟩
  obtain rfl : w = w1 := e1.symm
  clear hlong
  go_wp2
  have hfi : (first : Int) + (N : Int) ≤ 4611686018427387905 := by omega
  clear hb0
  go_loopg [0, 6, 7, 8] N (fun g vf vb vr vc wr => ∃ (k m : Nat) (P : List UInt8) (ar : Option Addr) (cr : Nat), k + m = N ∧ m = g ∧ vf = .int .u64 ((first + k : Nat) : Int) ∧ vr = .slice ar m cr ∧ Hid (Own wr 5 w.heap.size vb P ∧ Up w wr ∧ Rw w (.slice ar m cr) (L.drop k) ∧ R = P ++ packB (first + k) (L.drop k) ∧ P.length ≤ 512 * k))
  case atStart => exact ⟨0, N, [], ao, cap, by omega, rfl, rfl, rfl, H0⟩
  case round =>
    clear H0
    obtain ⟨k, m, P, ar, cr, hkm, rfl, rfl, rfl, HR⟩ := hrel
    by_cases hm : 0 < m
    · obtain ⟨hrw0, htb, h2, hN, hnum⟩ := HL.out
      obtain ⟨ho, hup, hrw, hR, hpl⟩ := HR.out
      have hdl : (L.drop k).length = m := by rw [List.length_drop, hN]; omega
      have hall : ∀ r ∈ L.drop k, r.length ≤ 200 := fun r hr => h2 r (List.mem_of_mem_drop hr)
      have hne : L.drop k ≠ [] := by intro e; rw [e] at hdl; simp at hdl; omega
      have hfit := fitting_any (.slice ar m cr) (L.drop k) wr (hrw.up hup) (by rw [hdl]; omega) hall
      obtain ⟨c, hc⟩ : ∃ c, fitN 0 (L.drop k) = c := ⟨_, rfl⟩
      have hc1 := fitN_some hall hne
      have hc2 := fitN_le 0 (L.drop k)
      have hroom := fitN_room 0 (L.drop k) (by omega)
      have hpk := packB_step (first + k) hall hne
      rw [hc] at hfit hc1 hc2 hroom hpk
      rw [hdl] at hc2
      obtain ⟨v1, hr1, hcut1, _⟩ := rw_cut hrw 0 c (Nat.zero_le _) (by rw [hdl]; exact hc2)
      have hcut1 := hcut1 rfl
      rw [List.drop_zero, Nat.sub_zero] at hr1
      have hl1 : ((L.drop k).take c).length = c := by rw [List.length_take, hdl]; omega
      obtain ⟨a1, c1, rfl⟩ := hr1.slice
      obtain ⟨v2, hr2, _, hcut2⟩ := rw_cut hrw c m hc2 (by rw [hdl]; omega)
      have hcut2 := hcut2 hdl.symm
      rw [List.take_of_length_le (by rw [List.length_drop, hdl]; omega), List.drop_drop] at hr2
      have hl2 : (L.drop (k + c)).length = m - c := by rw [List.length_drop, hN]; omega
      obtain ⟨a2, c2, rfl⟩ := hr2.slice
      rw [hl1] at hr1 hcut1
      rw [hl2] at hr2 hcut2
      have hbuild := build_any (first + k) (.slice a1 c c1) ((L.drop k).take c) wr (htb.up hup) (by omega) (hr1.up hup) (by rw [hl1]; omega) (fun r hr => hall r (List.mem_of_mem_take hr)) (by omega)
      have hblk : (blkB (first + k) ((L.drop k).take c)).length = 512 := blkB_length (by omega)
      have H5 : Hid (R = (P ++ blkB (first + k) ((L.drop k).take c)) ++ packB (first + (k + c)) (L.drop (k + c)) ∧ (P ++ blkB (first + k) ((L.drop k).take c)).length ≤ 512 * (k + c)) := by
        refine ⟨?_, ?_⟩
        · rw [hR, hpk, List.drop_drop, List.append_assoc, Nat.add_assoc]
        · rw [List.length_append, hblk]; omega
      obtain ⟨B1, hB1⟩ : ∃ B1, blkB (first + k) ((L.drop k).take c) = B1 := ⟨_, rfl⟩
      rw [hB1] at hbuild hblk H5
      have H6 : Hid (Rw w (.slice a2 (m - c) c2) (L.drop (k + c)) ∧ Up w wr ∧ Own wr 5 w.heap.size u6 P ∧ P.length ≤ 512 * k ∧ B1.length = 512) := ⟨hr2, hup, ho, hpl, hblk⟩
      have hmi : (0 : Int) < (m : Int) := by omega
      have hci : (c : Int) ≤ (m : Int) := by omega
      have hc0 : (0 : Int) < (c : Int) := by omega
      have hki : (first : Int) + (k : Int) + (c : Int) ≤ 4611686018427387905 := by omega
      have HA : Hid (0 < c ∧ c ≤ m ∧ k + m = N ∧ N ≤ 1000000000) := ⟨hc1, hc2, hkm, hn⟩
      obtain ⟨pv, pc, hpv⟩ := ho.sl.slice
      clear hR hpk hroom hall hne h2 hrw0 htb hN hnum hdl hc hc1 hc2 hl1 hl2 hr1 hr2 hrw hpl hblk hB1 HR hup ho hkm hm
      go_wp2_with fail
      refine hfit.mono ?_
      rintro e w1 ⟨rfl, e1⟩
      obtain rfl : wr = w1 := e1.symm
      clear hfit
      go_wp2_with fail
      refine hbuild.mono ?_
      rintro e w2 ⟨v3, rfl, o3, u3⟩
      clear hbuild
      have hB := H6.out.2.2.2.2
      have s3 := o3.sl
      obtain ⟨b3, p3, c3, rfl⟩ := s3.some (by intro e; rw [e] at hB; simp at hB)
      obtain ⟨_, hup, ho, hpl, _⟩ := H6.out
      have ho2 := ownsRow_up ho u3
      have hsz := hup.size
      have hsz2 := u3.size
      go_wp2_with (at_builtin; refine wpList_bytes _ rfl (.tmp 27) (.tmp 32) rfl w.heap.size wr.heap.size _ P B1 (by rw [hpv]; rfl) ⟨b3, p3, none⟩ c3 (by rw [hB]; rfl) ho2 s3 (by omega) (by have := HA.out; omega) ?_)
      intro v' w' ho' hg'
      have hup' : Up w w' := grown_up (hup.trans u3) hg' (fun x hx => (World.ownsRow.lt ho x (by rw [hpv]; exact hx)).1)
      have H7 : Hid (Own w' 5 w.heap.size v' (P ++ B1) ∧ Up w w' ∧ Rw w (.slice a2 (m - c) c2) (L.drop (k + c)) ∧ R = (P ++ B1) ++ packB (first + (k + c)) (L.drop (k + c)) ∧ (P ++ B1).length ≤ 512 * (k + c)) := ⟨ho', hup', H6.out.1, H5.out⟩
      clear H5 H6 ho' hg' hup' ho2 s3 o3 hpl ho hup hsz hsz2 u3 hB hcut1
      go_wp2
      go_roundg (m - c)
      case measure => have := HA.out; omega
      case rel => exact ⟨k + c, m - c, P ++ B1, a2, c2, by have := HA.out; omega, rfl, by simp only [Int.natCast_add]; rw [Int.add_assoc], rfl, H7⟩
    · obtain rfl : m = 0 := by omega
      obtain ⟨ho, hup, hrw, hR, hpl⟩ := HR.out
      have hnil : L.drop k = [] := List.drop_eq_nil_of_le (by rw [HL.out.2.2.2.1]; omega)
      rw [hnil, packB_nil, List.append_nil] at hR
      subst hR
      clear hrw hnil HR HL hpl hm
      go_wp2
      go_ret2
      exact ⟨_, rfl, ho, hup⟩

/-- What Pack answers: the error, or the blocks. -/
def pkE (ad : Nat → Addr) (first : Nat) (L : List Rec) : Value := if L = [] then .nilIface else if NumOk first L.length then (if anyLong L = true then eLong ad else .nilIface) else eArg ad
def pkR (first : Nat) (L : List Rec) : List UInt8 := if NumOk first L.length ∧ anyLong L = false then packB first L else []
theorem Pack_any (first : Nat) (v : Value) (L : List (List UInt8)) (w : World) (ad : Nat → Addr) (ht : Tb w) (hg : GlS w ad) (hf : first < 18446744073709551616) (hv : Rw w v L) (hn : L.length ≤ 1000000000) :
    Calls Tryz.prog 24 #[.int .u64 (first : Int), v] w fun e w' => ∃ v', e = .returned (.tuple #[v', pkE ad first L]) ∧ Own w' 5 w.heap.size v' (pkR first L) ∧ Up w w' := by
  by_cases h0 : L = []
  · subst h0
    have e : pkR first [] = [] := by unfold pkR; split <;> rfl
    rw [e]
    simp only [pkE, if_true]
    refine (Pack_none first v w hv).mono ?_
    rintro e w' ⟨rfl, hu⟩
    exact ⟨_, rfl, Own.nil _ _ _, hu⟩
  · have hl : 0 < L.length := List.length_pos_iff.2 h0
    by_cases h1 : NumOk first L.length
    · by_cases h2 : anyLong L = true
      · have e : pkR first L = [] := by unfold pkR; rw [if_neg]; simp [h2]
        have e2 : pkE ad first L = eLong ad := by unfold pkE; rw [if_neg h0, if_pos h1, if_pos h2]
        rw [e, e2]
        refine (Pack_long first v L w ad hg hf hv (by omega) h1 h2).mono ?_
        rintro e w' ⟨rfl, hu⟩
        exact ⟨_, rfl, Own.nil _ _ _, hu⟩
      · have h2' : anyLong L = false := by simpa using h2
        have e : pkR first L = packB first L := by unfold pkR; rw [if_pos ⟨h1, h2'⟩]
        have e2 : pkE ad first L = .nilIface := by unfold pkE; rw [if_neg h0, if_pos h1, if_neg h2]
        rw [e, e2]
        exact Pack_ok first v L w ht hf hv hn h1 h2'
    · have e : pkR first L = [] := by unfold pkR; rw [if_neg (fun h => h1 h.1)]
      have e2 : pkE ad first L = eArg ad := by unfold pkE; rw [if_neg h0, if_neg h1]
      rw [e, e2]
      refine (Pack_arg first v L w ad hg hf hv (by omega) hl h1).mono ?_
      rintro e w' ⟨rfl, hu⟩
      exact ⟨_, rfl, Own.nil _ _ _, hu⟩
end Go.Proofs.YtkfjkfpodkbkaaaGreatDoor

set_option linter.unusedVariables false
set_option linter.unusedSimpArgs false
namespace Go.Proofs.YtkfjkfpodkbkaaaGreatDoor
open Go Go.RowKit

/-- Whether a number is in a list. -/
def badOf (zs : List Int) (i : Nat) : Bool := decide ((i : Int) ∈ zs)
theorem endB_stop (n : Nat) : ∀ bad, endB n bad < n → (endB n bad : Int) ∈ bad := by
  intro bad
  induction bad generalizing n with
  | nil => intro h; exact absurd h (Nat.lt_irrefl _)
  | cons z r ih =>
    show endB (if 0 ≤ z then min n z.toNat else n) r < n → ((endB (if 0 ≤ z then min n z.toNat else n) r : Nat) : Int) ∈ z :: r
    intro h
    have hle := endB_le (if 0 ≤ z then min n z.toNat else n) r
    by_cases h2 : endB (if 0 ≤ z then min n z.toNat else n) r < (if 0 ≤ z then min n z.toNat else n)
    · exact List.mem_cons_of_mem _ (ih _ h2)
    · have e : endB (if 0 ≤ z then min n z.toNat else n) r = (if 0 ≤ z then min n z.toNat else n) := by omega
      rw [e] at h ⊢
      split at h
      · rename_i hz
        rw [if_pos hz]
        have : min n z.toNat = z.toNat := by omega
        rw [this, Int.toNat_of_nonneg hz]
        exact List.mem_cons_self
      · omega

theorem OwnV.hat {w : World} {base c : Nat} {ad : Addr} {us : List Value} (h : OwnV w base (.slice (some ad) us.length c) us) : ∀ j u, us[j]? = some u → w.cell? (ad.add j) = some u := by
  intro j u hu
  obtain ⟨hj, rfl⟩ := List.getElem?_eq_some_iff.1 hu
  obtain ⟨g, cap, e, hc⟩ := h.cell j hj
  simp only [Value.slice.injEq, Option.some.injEq] at e
  rw [e.1, Addr.add_lit, Nat.zero_add]
  exact hc
theorem Recs.some {w : World} {base : Nat} {v : Value} {L : List (List UInt8)} {vs : List Value} (h : Recs w base v L vs) (hne : L ≠ []) : ∃ ad cap, v = .slice (some ad) vs.length cap := by
  rcases h.row.parts with ⟨_, e⟩ | ⟨g, cap, cur, rfl, _⟩
  · have := h.len; rw [e] at this; exact absurd (List.eq_nil_of_length_eq_zero this.symm) hne
  · exact ⟨_, cap, rfl⟩
theorem decB_count {b : List UInt8} {f : Nat} {rs : List Rec} (h : decB b = .ok (f, rs)) : 0 < rs.length ∧ rs.length ≤ 247 ∧ f + rs.length ≤ 2 ^ 62 + 1 := by
  obtain ⟨hf, _⟩ := blk_dec h
  have h1 := bodyB_count rs
  have h2 := hf.room
  exact ⟨List.length_pos_iff.2 hf.one, by omega, hf.top⟩

/-- While sectors are scanned. -/
structure ScanR (w wr : World) (v : Value) (M : List Rec) (vs : List Value) (k : Nat) : Prop where
  recs : Recs wr w.heap.size v M vs
  up : Up w wr
  cnt : M.length ≤ 247 * k
theorem ScanR.more {w wr w1 w' : World} {v v2 v' : Value} {M rs : List Rec} {vs us : List Value} {k : Nat} (h : ScanR w wr v M vs k) (u : Up wr w1) (k2 : Recs w1 wr.heap.size v2 rs us) (hl : rs.length ≤ 247) (ho : OwnV w' w.heap.size v' (vs ++ us)) (hg : w1.grownBy w' v.ownBlock) :
    ScanR w w' v' (M ++ rs) (vs ++ us) (k + 1) := by
  have hv : ∀ x, v.ownBlock = some x → w.heap.size ≤ x ∧ x < wr.heap.size := fun x hx => World.ownsRow.lt h.recs.row x hx
  exact ⟨(h.recs.up u).append k2 h.up.size (fun x hx => (h.recs.mem hx).2.1) (fun x hx => (hv x hx).2) ho hg, grown_up (h.up.trans u) hg (fun x hx => (hv x hx).1), by rw [List.length_append]; have := h.cnt; omega⟩

set_option maxRecDepth 20000 in
set_option maxHeartbeats 1600000 in
theorem Scan_any (base : Nat) (v vb : Value) (d : List UInt8) (bad : List Int) (first : Nat) (w : World) (ad : Nat → Addr) (ht : Tb w) (hg : GlS w ad) (hs : Sl base w v d) (hb : SlI w vb bad) (hl : d.length ≤ 1000000000) (hn : bad.length ≤ 140737488355328) (hz : ∀ z ∈ bad, -9223372036854775808 ≤ z ∧ z ≤ 9223372036854775807) (hf : first < 18446744073709551616) :
    Calls Tryz.prog 30 #[v, vb, .int .u64 (first : Int)] w fun e w' => ∃ v' vs, e = .returned (.tuple #[v', .int .i64 ((scanB (badOf bad) (d.length / 512) d 0 first).2 : Nat)]) ∧ Recs w' w.heap.size v' (scanB (badOf bad) (d.length / 512) d 0 first).1 vs ∧ Up w w' := by
  have hfu := firstUnread_any base v vb d bad w hs hb (by omega) hn hz
  obtain ⟨RES, hRES⟩ : ∃ RES, scanB (badOf bad) (d.length / 512) d 0 first = RES := ⟨_, rfl⟩
  rw [hRES]
  obtain ⟨N, hN⟩ : ∃ N, d.length / 512 = N := ⟨_, rfl⟩
  obtain ⟨D, hD⟩ : ∃ D, endB (d.length / 512) bad = D := ⟨_, rfl⟩
  rw [hD] at hfu
  have hend : D ≤ N ∧ (∀ i, i < D → i < N ∧ badOf bad i = false) ∧ (D < N → badOf bad D = true) := by
    refine ⟨by rw [← hD, ← hN]; exact endB_le _ _, fun i hi => ?_, fun h => ?_⟩
    · rw [← hD] at hi
      have := (endB_bad _ _ _).1 hi
      exact ⟨by omega, decide_eq_false this.2.1⟩
    · rw [← hD, ← hN] at h
      rw [← hD]
      exact decide_eq_true (endB_stop _ _ h)
  have HE : Hid (D ≤ N ∧ (∀ i, i < D → i < N ∧ badOf bad i = false) ∧ (D < N → badOf bad D = true)) := hend
  have HA : Hid (Tb w ∧ GlS w ad ∧ Sl base w v d ∧ N = d.length / 512 ∧ d.length ≤ 1000000000) := ⟨ht, hg, hs, hN.symm, hl⟩
  obtain ⟨ao, cap, hv⟩ := hs.slice
  obtain ⟨bo, bc, _, hvb, _⟩ : ∃ ao cap, True ∧ vb = .slice ao bad.length cap ∧ True := by
    obtain ⟨ao, cap, e, _⟩ := hb
    exact ⟨ao, cap, trivial, e, trivial⟩
  have hDi : (D : Int) ≤ 2000000 := by have := hend.1; omega
  have hD0 : (0 : Int) ≤ (D : Int) := by omega
  have H0 : Hid (ScanR w w (.slice none 0 0) [] [] 0 ∧ RES = ([] ++ (scanB (badOf bad) (N - 0) (d.drop (512 * 0)) 0 first).1, 0 + (scanB (badOf bad) (N - 0) (d.drop (512 * 0)) 0 first).2) ∧ first < 18446744073709551616) := by
    refine ⟨⟨Recs.nil _ _, Up.refl _, by simp⟩, ?_, hf⟩
    rw [← hRES, hN]; simp
  clear hend hs hb ht hg hRES hD hN
  rw [hv, hvb] at hfu ⊢
  obtain ⟨dl, hdl⟩ : ∃ dl, d.length = dl := ⟨_, rfl⟩
  have Hdl : Hid (d.length = dl) := hdl
  rw [hdl] at hv hfu ⊢
  clear hdl hl
  go_enter Tryz.func30, Tryz.ntmps30
  go_wp2_with fail
  refine hfu.mono ?_
  rintro e w1 ⟨rfl, e1⟩
  obtain rfl : w = w1 := e1.symm
  clear hfu
  go_wp2
  go_loopg [2, 8, 18] D (fun g vf vr i wr => ∃ (k due : Nat) (M : List Rec) (vs : List Value), k ≤ D ∧ g = D - k ∧ i = .int .i64 k ∧ vf = .int .u64 (due : Int) ∧ Hid (ScanR w wr vr M vs k ∧ RES = (M ++ (scanB (badOf bad) (N - k) (d.drop (512 * k)) k due).1, k + (scanB (badOf bad) (N - k) (d.drop (512 * k)) k due).2) ∧ due < 18446744073709551616))
  case atStart => exact ⟨0, first, [], [], by omega, rfl, rfl, rfl, H0⟩
  case round =>
    clear H0
    obtain ⟨k, due, M, vs, hk, rfl, rfl, rfl, HR⟩ := hrel
    by_cases hlt : k < D
    · obtain ⟨htb, hg, hs, hN, hl⟩ := HA.out
      obtain ⟨hsr, hRES, hdue⟩ := HR.out
      have hkN := (HE.out.2.1 k hlt)
      have hlen : 512 * (k + 1) ≤ d.length := by omega
      obtain ⟨v1, hs1, hcut, _, _⟩ := sl_cut hs (k * 512) ((k + 1) * 512) (by omega) (by omega)
      have e1 : (d.drop (k * 512)).take ((k + 1) * 512 - k * 512) = (d.drop (512 * k)).take 512 := by
        rw [Nat.mul_comm k 512, show (k + 1) * 512 - 512 * k = 512 by omega]
      rw [e1] at hs1
      have hl1 : ((d.drop (512 * k)).take 512).length = 512 := by rw [List.length_take, List.length_drop]; omega
      obtain ⟨a1, c1, rfl⟩ := hs1.slice
      rw [hl1] at hs1 hcut
      rw [show ((k * 512 : Nat) : Int) = (k : Int) * 512 from by omega, show (((k + 1) * 512 : Nat) : Int) = ((k : Int) + 1) * 512 from by omega] at hcut
      have hdec := Decode_any base _ _ wr ad (htb.up hsr.up) (hs1.up hsr.up) (hg.up hsr.up)
      have hfuel : N - k = (N - (k + 1)) + 1 := by omega
      have hcond : ¬ ((d.drop (512 * k)).length < 512 ∨ badOf bad k = true) := by
        rw [hkN.2, List.length_drop]; simp; omega
      rw [hfuel, scanB, if_neg hcond] at hRES
      have hk1 : (k : Int) ≤ 2000000 := by omega
      have Hlt : Hid (k < D) := hlt
      rw [hv] at hcut
      cases hd : decB ((d.drop (512 * k)).take 512) with
      | error er =>
        rw [hd] at hdec hRES
        have hR : RES = (M, k) := by rw [hRES]; simp
        subst hR
        obtain ⟨av, cv, rfl⟩ := hsr.recs.slice
        clear hRES hd hcond hfuel hs1 hl1 e1 hlen hkN htb hg hs hN hl
        go_wp2_with fail
        refine hdec.mono ?_
        rintro e w2 ⟨hT, u2⟩
        clear hdec
        have hrec := hsr.recs.up u2
        have hup := hsr.up.trans u2
        clear hsr HR HE HA
        cases er with
        | short => obtain rfl := hT; go_wp2; go_ret2; exact ⟨_, rfl, ⟨_, hrec⟩, hup⟩
        | form => obtain rfl := hT; go_wp2; go_ret2; exact ⟨_, rfl, ⟨_, hrec⟩, hup⟩
        | sum => obtain rfl := hT; go_wp2; go_ret2; exact ⟨_, rfl, ⟨_, hrec⟩, hup⟩
      | ok x =>
        obtain ⟨f, rs⟩ := x
        rw [hd] at hdec hRES
        have hcnt := decB_count hd
        obtain ⟨av, cv, hvr⟩ := hsr.recs.slice
        by_cases hfd : f = due
        · subst hfd
          have hRES2 : RES = ((M ++ rs) ++ (scanB (badOf bad) (N - (k + 1)) (d.drop (512 * (k + 1))) (k + 1) (f + rs.length)).1, (k + 1) + (scanB (badOf bad) (N - (k + 1)) (d.drop (512 * (k + 1))) (k + 1) (f + rs.length)).2) := by
            rw [hRES]
            simp only [if_true]
            rw [List.drop_drop, show 512 * k + 512 = 512 * (k + 1) by omega, List.append_assoc]
            congr 1
            omega
          obtain ⟨m, hm⟩ : ∃ m, rs.length = m := ⟨_, rfl⟩
          rw [hm] at hRES2 hcnt
          have HS : Hid (ScanR w wr u8 M vs k ∧ RES = ((M ++ rs) ++ (scanB (badOf bad) (N - (k + 1)) (d.drop (512 * (k + 1))) (k + 1) (f + m)).1, (k + 1) + (scanB (badOf bad) (N - (k + 1)) (d.drop (512 * (k + 1))) (k + 1) (f + m)).2) ∧ rs.length = m ∧ 0 < m ∧ m ≤ 247 ∧ f + m < 18446744073709551616) := ⟨hsr, hRES2, hm, hcnt.1, hcnt.2.1, by have := hcnt.2.2; omega⟩
          have hfm : (f : Int) + (m : Int) ≤ 4611686018427387905 := by have := hcnt.2.2; omega
          have hm0 : (0 : Int) ≤ (m : Int) := by omega
          have hm247 : (m : Int) ≤ 247 := by have := hcnt.2.1; omega
          clear hRES hRES2 hd hcond hfuel hs1 hl1 e1 hlen hkN htb hg hs hN hl hcnt HR hm hsr hdue
          go_wp2_with fail
          refine hdec.mono ?_
          rintro e w2 ⟨⟨v2, us, rfl, hk2⟩, u2⟩
          clear hdec
          have hst := HS.out
          obtain ⟨ad2, c2, rfl⟩ := hk2.some (by intro e; have := hst.2.2.2.1; rw [← hst.2.2.1, e] at this; simp at this)
          have hus : us.length = m := hk2.len.trans hst.2.2.1
          have hrow := ownsRow_up hst.1.recs.row u2
          rw [hvr] at hrow
          have hrow2 := hk2.row
          have hone := hk2.one
          have hszz := (hst.1.up.trans u2).size
          have hbound : vs.length + us.length ≤ 5000000000000 := by rw [hst.1.recs.len, hus]; have := hst.1.cnt; omega
          have HK : Hid (Recs w2 wr.heap.size (.slice (some ad2) us.length c2) rs us ∧ Up wr w2) := ⟨hk2, u2⟩
          rw [hus]
          clear hst hk2 u2
          go_wp2_with (at_builtin; refine wpList_appV _ rfl (.tmp 42) (.tmp 43) rfl w.heap.size _ vs us rfl ad2 c2 (by rw [hus]; rfl) hrow hrow2.hat hone hszz hbound ?_)
          intro v' w' ho' hg'
          have hst := HS.out
          have hsr5 := hst.1.more HK.out.2 HK.out.1 (by rw [hst.2.2.1]; exact hst.2.2.2.2.1) ho' (by rw [hvr]; exact hg')
          have H5 : Hid (ScanR w w' v' (M ++ rs) (vs ++ us) (k + 1) ∧ RES = ((M ++ rs) ++ (scanB (badOf bad) (N - (k + 1)) (d.drop (512 * (k + 1))) (k + 1) (f + m)).1, (k + 1) + (scanB (badOf bad) (N - (k + 1)) (d.drop (512 * (k + 1))) (k + 1) (f + m)).2) ∧ f + m < 18446744073709551616) := ⟨hsr5, hst.2.1, hst.2.2.2.2.2⟩
          clear hsr5 hst HS HK ho' hg' hrow hrow2 hone hszz hbound
          go_wp2
          go_roundg (D - (k + 1))
          case measure => have := Hlt.out; omega
          case rel => exact ⟨k + 1, f + m, _, _, Hlt.out, rfl, by go_num, by go_num, H5⟩
        · have hR : RES = (M, k) := by rw [hRES]; simp only [if_neg hfd]; simp
          subst hR
          have hne : ((f : Int) == (due : Int)) = false := by simp only [beq_eq_false_iff_ne]; omega
          subst hvr
          clear hRES hd hcond hfuel hs1 hl1 e1 hlen hkN htb hg hs hN hl hcnt hfd
          go_wp2_with fail
          refine hdec.mono ?_
          rintro e w2 ⟨⟨v2, us, rfl, hk2⟩, u2⟩
          clear hdec
          have hrec := hsr.recs.up u2
          have hup := hsr.up.trans u2
          clear hsr HR HE HA hk2
          go_wp2
          go_ret2
          exact ⟨_, rfl, ⟨_, hrec⟩, hup⟩
    · obtain rfl : k = D := by omega
      obtain ⟨hsr, hRES, hdue⟩ := HR.out
      obtain ⟨_, _, hs, hN, hl⟩ := HA.out
      have hR : RES = (M, k) := by
        have hz : (scanB (badOf bad) (N - k) (d.drop (512 * k)) k due) = ([], 0) := by
          cases hq : N - k with
          | zero => rfl
          | succ q =>
            rw [scanB, if_pos]
            right
            exact HE.out.2.2 (by omega)
        rw [hRES, hz]; simp
      subst hR
      have hrec := hsr.recs
      have hup := hsr.up
      obtain ⟨av, cv, rfl⟩ := hsr.recs.slice
      clear hRES hsr HR HE HA hs hN hl hlt
      go_wp2
      go_ret2
      exact ⟨_, rfl, ⟨_, hrec⟩, hup⟩
end Go.Proofs.YtkfjkfpodkbkaaaGreatDoor
