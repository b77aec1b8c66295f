/- Merged: BkAwake. -/
import Derived.Test.YtkfjkfpodkbkaaaDoorMk33
import Derived.Test.YtkfjkfpodkbkaaaDoorMk34
set_option linter.unusedVariables false
set_option linter.unusedSimpArgs false
namespace Go.Proofs.YtkfjkfpodkbkaaaDoor
open Go Go.RowKit

def abcB : List UInt8 := blkB 1 [[97, 98, 99]]
theorem abc_fit : FitB 1 [[97, 98, 99]] := ⟨by simp, by omega, by decide, by decide, by decide⟩
theorem abc_length : abcB.length = 512 := blkB_length abc_fit.room
theorem abc_at : abcB[0]? = some 84 ∧ abcB[14]? = some 69 ∧ abcB[17]? = some 195 ∧ abcB[20]? = some 97 := by decide +kernel
theorem abc_dec : decB abcB = .ok (1, [[97, 98, 99]]) := dec_blk abc_fit
theorem badOf_nil : badOf [] = fun _ => false := by funext i; simp [badOf]
/-- What is packed is scanned whole, by Scan's own bound. -/
theorem scan_packed {first : Nat} {rs : List Rec} (h : ∀ r ∈ rs, r.length ≤ 200) (h1 : 1 ≤ first) (h2 : first + rs.length ≤ 2 ^ 62 + 1) :
    scanB (badOf []) ((packB first rs).length / 512) (packB first rs) 0 first = (rs, (packB first rs).length / 512) := by
  rw [badOf_nil, scan_any _ _ (packB first rs).length _ _ _ (Nat.le_refl _) (by omega), scan_pack h h1 h2]
theorem ab_length : (packB 7 [[97], [98]]).length = 512 := by decide +kernel
theorem ab_scan : scanB (badOf []) 1 (packB 7 [[97], [98]]) 0 7 = ([[97], [98]], 1) := by
  have h := scan_packed (first := 7) (rs := [[97], [98]]) (by decide) (by omega) (by decide)
  rwa [ab_length] at h

theorem Own.some {w : World} {base : Nat} {v : Value} {bs : List UInt8} (h : Own w 5 base v bs) (hne : bs ≠ []) : ∃ g cap, v = .slice (some ⟨g, 0, none⟩) bs.length cap ∧ ∀ i c, bs[i]? = some c → w.cell? ⟨g, i, none⟩ = some (.int .u8 (c.toNat : Int)) := by
  have h' := h
  obtain ⟨hl, ⟨rfl, hn⟩ | ⟨g, cap, cur, rfl, hb, hg, hnc, hcm, hcs, ht⟩⟩ := h
  · exact absurd (List.eq_nil_of_length_eq_zero hn) hne
  · refine ⟨g, cap, rfl, fun i c hc => ?_⟩
    obtain ⟨hi, rfl⟩ := List.getElem?_eq_some_iff.1 hc
    have := h'.at i hi
    rwa [Nat.zero_add] at this

set_option maxRecDepth 20000 in
set_option maxHeartbeats 3200000 in
theorem awake_any (w : World) (ad : Nat → Addr) (ht : Tb w) (hg : GlS w ad) : Calls Tryd.prog 4 #[] w fun e w' => e = .returned (.bool true) ∧ Up w w' := by
  have kc := fun (w : World) (C : Array Value) (n c : Nat) => Lib.run_convert_bytes_const (P := Tryd.prog) w 27 5 C n c Tryd.underlying27 Tryd.underlying5
  go_enter Tryd.func4, Tryd.ntmps4
  go_wp2_with fail
  clear kc
  obtain ⟨wa, hwa⟩ : ∃ x, w.alloc (.cells #[.int .u8 97, .int .u8 98, .int .u8 99] 5 (3, 4)) = x := ⟨_, rfl⟩
  have a1 : Up w wa := hwa ▸ Up.alloc _ _
  have hza : wa.heap.size = w.heap.size + 1 := by rw [← hwa]; simp
  have sa : Sl w.heap.size wa (.slice (some ⟨w.heap.size, 0, none⟩) 3 3) [97, 98, 99] := hwa ▸ sl_built w [97, 98, 99] 5 (3, 4)
  rw [hwa]
  obtain ⟨wb, hwb⟩ : ∃ x, wa.alloc (.cells #[.slice (some ⟨w.heap.size, 0, none⟩) 3 3] 27) = x := ⟨_, rfl⟩
  have a2 : Up wa wb := hwb ▸ Up.alloc _ _
  have hn := heap_alloc_new wa (.cells #[.slice (some ⟨w.heap.size, 0, none⟩) 3 3] 27)
  rw [hwb, hza] at hn
  rw [hwb]
  have s1 := (sa.mono (Nat.zero_le _)).up a2
  have U1 := a1.trans a2
  have hrw : Rw wb (.slice (some ⟨w.heap.size + 1, 0, none⟩) 1 1) [[97, 98, 99]] := by
    refine ⟨_, _, rfl, Nat.le_refl _, fun _ => ⟨_, _, rfl, fun i hi => ?_⟩⟩
    match i, hi with
    | 0, _ => exact ⟨_, by rw [cell_of_row _ _ _ _ _ _ hn]; rfl, s1⟩
  have HA : Hid (Tb w ∧ GlS w ad) := ⟨ht, hg⟩
  have henc := Encode_ok 1 _ _ wb (ht.up U1) hrw abc_fit
  clear hn hwa hwb a1 a2 sa s1 hza hrw ht hg
  refine henc.mono ?_
  rintro e w1 ⟨v1, rfl, o1, u1⟩
  clear henc
  have U2 := U1.trans u1
  have hlen := abc_length
  have o1 : Own w1 5 wb.heap.size v1 abcB := o1
  obtain ⟨g1, cap1, rfl, hat⟩ := o1.some (by intro e; rw [e] at hlen; simp at hlen)
  have c0 : w1.cell? ⟨g1, 0, none⟩ = some (.int .u8 84) := hat 0 84 abc_at.1
  have c14 : w1.cell? ⟨g1, 14, none⟩ = some (.int .u8 69) := hat 14 69 abc_at.2.1
  have c17 : w1.cell? ⟨g1, 17, none⟩ = some (.int .u8 195) := hat 17 195 abc_at.2.2.1
  have c20 : w1.cell? ⟨g1, 20, none⟩ = some (.int .u8 97) := hat 20 97 abc_at.2.2.2
  have hdec := Decode_any wb.heap.size _ _ w1 ad (HA.out.1.up U2) o1.sl (HA.out.2.up U2)
  rw [abc_dec] at hdec
  rw [hlen] at hdec ⊢
  clear hat hlen o1 u1 U1
  go_wp2_with fail
  refine hdec.mono ?_
  rintro e w2 ⟨⟨v2, vs2, rfl, r2⟩, u2⟩
  clear hdec c0 c14 c17 c20
  have U3 := U2.trans u2
  obtain ⟨b, o, cap, vi, hv2, hx⟩ := r2.rw.at 0 (by simp)
  obtain ⟨hc, hs⟩ := hx w2 (Up.refl _)
  have hs : Sl 0 w2 vi [97, 98, 99] := hs
  have hstr := sl_string hs
  subst hv2
  obtain ⟨ai, ci, e3⟩ := hs.slice
  have e3 : vi = .slice ai 3 ci := e3
  subst e3
  rw [Nat.add_zero] at hc
  have HU3 : Hid (Up w w2) := U3
  have kc2 := fun (X : Obj) (C : Array Value) (n c : Nat) => Lib.run_convert_bytes_const (P := Tryd.prog) (w2.alloc X) 27 5 C n c Tryd.underlying27 Tryd.underlying5
  have kc1 := fun (C : Array Value) (n c : Nat) => Lib.run_convert_bytes_const (P := Tryd.prog) w2 27 5 C n c Tryd.underlying27 Tryd.underlying5
  simp only [World.size_alloc] at kc2
  clear hx hs r2 u2 U2 U3 o1
  go_wp2_with fail
  clear kc1 kc2 hc hstr hs
  obtain ⟨wa, hwa⟩ : ∃ x, w2.alloc (.cells #[.int .u8 97] 5 (1, 2)) = x := ⟨_, rfl⟩
  have a1 : Up w2 wa := hwa ▸ Up.alloc _ _
  have hza : wa.heap.size = w2.heap.size + 1 := by rw [← hwa]; simp
  have sa : Sl w2.heap.size wa (.slice (some ⟨w2.heap.size, 0, none⟩) 1 1) [97] := hwa ▸ sl_built w2 [97] 5 (1, 2)
  rw [hwa]
  obtain ⟨wb, hwb⟩ : ∃ x, wa.alloc (.cells #[.int .u8 98] 5 (1, 2)) = x := ⟨_, rfl⟩
  have a2 : Up wa wb := hwb ▸ Up.alloc _ _
  have hzb : wb.heap.size = w2.heap.size + 1 + 1 := by rw [← hwb, ← hza]; simp
  have sb : Sl wa.heap.size wb (.slice (some ⟨w2.heap.size + 1, 0, none⟩) 1 1) [98] := by
    have h := sl_built wa [98] 5 (1, 2)
    rw [← hza, ← hwb]; exact h
  rw [hwb]
  obtain ⟨w4, hw4⟩ : ∃ x, wb.alloc (.cells #[.slice (some ⟨w2.heap.size, 0, none⟩) 1 1, .slice (some ⟨w2.heap.size + 1, 0, none⟩) 1 1] 27) = x := ⟨_, rfl⟩
  have a3 : Up wb w4 := hw4 ▸ Up.alloc _ _
  have hn := heap_alloc_new wb (.cells #[.slice (some ⟨w2.heap.size, 0, none⟩) 1 1, .slice (some ⟨w2.heap.size + 1, 0, none⟩) 1 1] 27)
  rw [hw4, hzb] at hn
  rw [hw4]
  have s5 := (sa.mono (Nat.zero_le _)).up (a2.trans a3)
  have s6 := (sb.mono (Nat.zero_le _)).up a3
  have U4 := HU3.out.trans (a1.trans (a2.trans a3))
  have hrw : Rw w4 (.slice (some ⟨w2.heap.size + 1 + 1, 0, none⟩) 2 2) [[97], [98]] := by
    refine ⟨_, _, rfl, Nat.le_refl _, fun _ => ⟨_, _, rfl, fun i hi => ?_⟩⟩
    match i, hi with
    | 0, _ => exact ⟨_, by rw [cell_of_row _ _ _ _ _ _ hn]; rfl, s5⟩
    | 1, _ => exact ⟨_, by rw [cell_of_row _ _ _ _ _ _ hn]; rfl, s6⟩
  have hpk := Pack_ok 7 _ _ w4 (HA.out.1.up U4) (by omega) hrw (by simp) (by decide) (by decide)
  clear hn hwa hwb hw4 a1 a2 a3 sa sb s5 s6 hza hzb hrw HU3
  refine hpk.mono ?_
  rintro e w5 ⟨v5, rfl, o5, u5⟩
  clear hpk
  have U5 := U4.trans u5
  have hlen := ab_length
  obtain ⟨g5, cap5, rfl, hat⟩ := o5.some (by intro e; rw [e] at hlen; simp at hlen)
  have hsc := Scan_any w4.heap.size _ (.slice none 0 0) _ [] 7 w5 ad (HA.out.1.up U5) (HA.out.2.up U5) o5.sl (SlI.nil _) (by rw [hlen]; omega) (by simp) (by simp) (by omega)
  rw [hlen, show 512 / 512 = 1 from rfl, ab_scan] at hsc
  rw [hlen]
  clear hat hlen o5 u5 U4
  go_wp2_with fail
  refine hsc.mono ?_
  rintro e w6 ⟨v6, vs6, rfl, r6, u6⟩
  clear hsc
  have U6 := U5.trans u6
  obtain ⟨a6, c6, e6⟩ := r6.slice
  have e6 : v6 = .slice a6 2 c6 := e6
  subst e6
  clear r6 u6 U5 HA
  go_wp2
  go_ret
  exact ⟨rfl, U6⟩
end Go.Proofs.YtkfjkfpodkbkaaaDoor
