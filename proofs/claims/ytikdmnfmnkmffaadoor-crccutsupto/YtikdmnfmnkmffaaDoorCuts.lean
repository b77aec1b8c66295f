/- The law CrcCuts returns true for every bytes and every row of places, and changes nothing that was there, where the table of half bytes lies in its variable. -/
import Derived.Test.YtikdmnfmnkmffaaDoorRowsV
set_option linter.unusedVariables false
namespace Go.Proofs.YtikdmnfmnkmffaaDoor
open Go Go.RowKit

/-- The slice v reads as a row of ints. -/
def InR (w : World) (v : Value) (zs : List Int) : Prop :=
  ∃ ao cap, v = .slice ao zs.length cap ∧ (zs ≠ [] → ∃ b o, ao = some ⟨b, o, none⟩ ∧ ∀ i (h : i < zs.length), w.cell? ⟨b, o + i, none⟩ = some (.int .i64 zs[i]))
/-- What the first loop keeps: the pieces up to here, put together, are the bytes up to here. -/
structure Cut (w0 wr : World) (base : Nat) (bs : List UInt8) (vp : Value) (vs : List Value) (L : List (List UInt8)) (from_ k : Nat) : Prop where
  own : OwnV wr base vp vs
  len : vs.length = L.length
  few : vs.length ≤ k
  low : from_ ≤ bs.length
  sl : ∀ i (h1 : i < vs.length) (h2 : i < L.length), Sl 0 w0 vs[i] L[i]
  all : L.flatten = bs.take from_
  up : Up w0 wr
theorem Cut.more {w0 wr wr' : World} {base : Nat} {bs : List UInt8} {vp vp' u : Value} {vs : List Value} {L : List (List UInt8)} {f k t : Nat} (h : Cut w0 wr base bs vp vs L f k)
    (ho : OwnV wr' base vp' (vs ++ [u])) (hs : Sl 0 w0 u ((bs.drop f).take (t - f))) (hft : f ≤ t) (ht : t ≤ bs.length) (hu : Up w0 wr') :
    Cut w0 wr' base bs vp' (vs ++ [u]) (L ++ [(bs.drop f).take (t - f)]) t (k + 1) := by
  refine ⟨ho, by simp [h.len], by have := h.few; simp; omega, ht, fun i h1 h2 => ?_, ?_, hu⟩
  · by_cases hi : i < vs.length
    · rw [List.getElem_append_left hi, List.getElem_append_left (by have := h.len; omega)]
      exact h.sl i hi _
    · have hi' : i = vs.length := by simp at h1; omega
      subst hi'
      have e1 : (vs ++ [u])[vs.length]'h1 = u := by simp
      have e2 : (L ++ [(bs.drop f).take (t - f)])[vs.length]'h2 = (bs.drop f).take (t - f) := by
        rw [List.getElem_append_right (by have := h.len; omega)]; simp
      rw [e1, e2]; exact hs
  · rw [List.flatten_append, h.all]
    simp only [List.flatten_cons, List.flatten_nil, List.append_nil]
    rw [← List.take_add, show f + (t - f) = t by omega]

theorem piece_le {l : List UInt8} : ∀ {L : List (List UInt8)}, l ∈ L → l.length ≤ L.flatten.length
  | [], h => by cases h
  | x :: r, h => by
    rw [List.flatten_cons, List.length_append]
    rcases List.mem_cons.1 h with e | e
    · subst e; omega
    · have := piece_le (L := r) e; omega

set_option maxRecDepth 20000 in
set_option maxHeartbeats 3200000 in
theorem CrcCuts_any (v vc : Value) (bs : List UInt8) (zs : List Int) (hl : (bs.length : Int) ≤ 140737488355327) (hzl : (zs.length : Int) ≤ 140737488355327) (w : World) (ht : Tb w) (hs : Sl 0 w v bs) (hz : InR w vc zs) :
    Calls Tryd.prog 4 #[v, vc] w fun e w' => e = .returned (.bool true) ∧ Up w w' := by
  have Hs : Hid (Sl 0 w v bs) := hs
  obtain ⟨ao, cap, rfl, _⟩ := hs
  obtain ⟨az, cz, rfl, hzx⟩ := hz
  go_enter Tryd.func4, Tryd.ntmps4
  go_wp2_with fail
  refine (awake_any _ ht).mono ?_
  rintro e w1 ⟨rfl, hu⟩
  have hs1 : Hid (Sl 0 w1 (.slice ao bs.length cap) bs) := Sl.up Hs.out hu
  by_cases hmany : (1048576 : Int) < (zs.length : Int)
  · go_wp2
    go_ret
    exact ⟨rfl, hu⟩
  have hzx1 : zs ≠ [] → ∃ b o, az = some ⟨b, o, none⟩ ∧ b < w1.heap.size ∧ ∀ i (h : i < zs.length), w1.cell? ⟨b, o + i, none⟩ = some (.int .i64 zs[i]) := fun hn => by
    obtain ⟨b, o, e, h⟩ := hzx hn
    have hb : b < w.heap.size := World.block_lt_of_cell? w _ (h 0 (List.length_pos_iff.2 hn))
    exact ⟨b, o, e, by have := hu.size; omega, fun i hi => by rw [hu.cell hb]; exact h i hi⟩
  have Hzx : Hid (zs ≠ [] → ∃ b o, az = some ⟨b, o, none⟩ ∧ b < w1.heap.size ∧ ∀ i (h : i < zs.length), w1.cell? ⟨b, o + i, none⟩ = some (.int .i64 zs[i])) := hzx1
  have hmany' : ¬ (1048576 < zs.length) := by omega
  have Hmany : Hid ((zs.length : Int) ≤ 1048576) := by show (zs.length : Int) ≤ 1048576; omega
  clear hzx hzx1 hmany
  have hstart : Hid (Cut w1 (w1.alloc (.cells #[] 26)) w1.heap.size bs (.slice (some ⟨w1.heap.size, 0, none⟩) 0 0) [] [] 0 0) :=
    ⟨⟨rfl, .inr ⟨w1.heap.size, 0, #[], rfl, Nat.le_refl _, heap_alloc_new _ _, Nat.le_refl _, by unfold maxLen; omega, rfl, rfl⟩⟩, rfl, Nat.le_refl _, Nat.zero_le _, fun i h1 => by simp at h1, rfl, Up.alloc _ _⟩
  go_wp2_with fail
  go_loopg [6, 7, 8] zs.length (fun g vp fr i wr => ∃ (k f : Nat) (vs : List Value) (L : List (List UInt8)), k ≤ zs.length ∧ g = zs.length - k ∧ i = .int .i64 k ∧ fr = .int .i64 f ∧ Hid (Cut w1 wr w1.heap.size bs vp vs L f k))
  case atStart => exact ⟨0, 0, [], [], by omega, rfl, rfl, rfl, hstart⟩
  case round =>
    clear hstart
    obtain ⟨k, f, vs, L, hk, rfl, rfl, rfl, hcut⟩ := hrel
    by_cases hlt : k < zs.length
    · obtain ⟨bz, oz, rfl, hbz, hcz⟩ := Hzx.out (by rintro rfl; simp at hlt)
      have hci : wr.cell? ⟨bz, oz + k, none⟩ = some (.int .i64 (zs[k]'hlt)) := by rw [hcut.out.up.cell hbz]; exact hcz k hlt
      have Hlt : Hid (k < zs.length) := hlt
      clear hcz
      generalize zs[k]'hlt = z at hci
      have hstay : Hid (Cut w1 wr w1.heap.size bs u6 vs L f (k + 1)) := by
        obtain ⟨q1, q2, q3, q4, q5, q6, q7⟩ := hcut.out
        exact ⟨q1, q2, by omega, q4, q5, q6, q7⟩
      by_cases h1 : (f : Int) ≤ z
      · by_cases h2 : z ≤ (bs.length : Int)
        · obtain ⟨t, rfl⟩ := Int.eq_ofNat_of_zero_le (show 0 ≤ z by omega)
          have hft : f ≤ t := by omega
          have htl : t ≤ bs.length := by omega
          obtain ⟨vp', hsp, hcs, _, _⟩ := sl_cut hs1.out f t hft htl
          have Hmore : Hid (∀ vp2 w2, OwnV w2 w1.heap.size vp2 (vs ++ [vp']) → Below w1.heap.size wr w2 → Cut w1 w2 w1.heap.size bs vp2 (vs ++ [vp']) (L ++ [(bs.drop f).take (t - f)]) t (k + 1)) := fun vp2 w2 h1 h2 => hcut.out.more h1 hsp hft htl (Below.trans hcut.out.up h2)
          have hone : vp'.oneCell' = true := by obtain ⟨a9, c9, rfl, _⟩ := hsp; rfl
          have Hlb : Hid (w1.heap.size ≤ wr.heap.size) := hcut.out.up.size
          have Hvl : Hid (vs.length ≤ 2000000) := by have := hcut.out.few; have := Hmany.out; show _ ≤ _; omega
          have Hown : Hid (OwnV wr w1.heap.size u6 vs) := hcut.out.own
          have hsp2 : ∃ a9 c9 n9, vp' = .slice a9 n9 c9 := by obtain ⟨a9, c9, h, _⟩ := hsp; exact ⟨a9, c9, _, h⟩
          clear hsp hft htl hstay
          obtain ⟨a9, c9, n9, rfl⟩ := hsp2
          go_wp2_with (at_builtin; refine wpList_pushV _ rfl (.tmp 45) (.tmp 53) rfl w1.heap.size _ vs rfl _ hone rfl Hown.out Hlb.out Hvl.out ?_)
          intro v' w' ho' hb'
          have hnew : Hid (Cut w1 w' w1.heap.size bs v' (vs ++ [.slice a9 n9 c9]) (L ++ [(bs.drop f).take (t - f)]) t (k + 1)) := Hmore.out _ _ ho' hb'
          have hci' : w'.cell? ⟨bz, oz + k, none⟩ = some (.int .i64 (t : Int)) := by rw [hb'.cell hbz]; exact hci
          clear ho' hb' hci Hmore Hown
          go_wp2
          go_roundg (zs.length - (k + 1))
          case measure => have := Hlt.out; omega
          case rel => exact ⟨k + 1, t, _, _, Hlt.out, rfl, by go_num, rfl, hnew⟩
        · go_wp2
          go_roundg (zs.length - (k + 1))
          case measure => have := Hlt.out; omega
          case rel => exact ⟨k + 1, f, vs, L, Hlt.out, rfl, by go_num, rfl, hstay⟩
      · go_wp2
        go_roundg (zs.length - (k + 1))
        case measure => have := Hlt.out; omega
        case rel => exact ⟨k + 1, f, vs, L, Hlt.out, rfl, by go_num, rfl, hstay⟩
    · obtain ⟨vp', hsp, _, _, hcs⟩ := sl_cut hs1.out f bs.length hcut.out.low (Nat.le_refl _)
      have hcs2 := hcs rfl
      have Hmore : Hid (∀ vp2 w2, OwnV w2 w1.heap.size vp2 (vs ++ [vp']) → Below w1.heap.size wr w2 → Cut w1 w2 w1.heap.size bs vp2 (vs ++ [vp']) (L ++ [(bs.drop f).take (bs.length - f)]) bs.length (k + 1)) := fun vp2 w2 h1 h2 => hcut.out.more h1 hsp hcut.out.low (Nat.le_refl _) (Below.trans hcut.out.up h2)
      have hone : vp'.oneCell' = true := by obtain ⟨a9, c9, rfl, _⟩ := hsp; rfl
      have Hlb : Hid (w1.heap.size ≤ wr.heap.size) := hcut.out.up.size
      have Hvl : Hid (vs.length ≤ 2000000) := by have := hcut.out.few; have := Hmany.out; show _ ≤ _; omega
      have Hown : Hid (OwnV wr w1.heap.size u6 vs) := hcut.out.own
      have hsp2 : ∃ a9 c9 n9, vp' = .slice a9 n9 c9 := by obtain ⟨a9, c9, h, _⟩ := hsp; exact ⟨a9, c9, _, h⟩
      clear hsp hcut hcs
      obtain ⟨a9, c9, n9, rfl⟩ := hsp2
      go_wp2_with (at_builtin; refine wpList_pushV _ rfl (.tmp 59) (.tmp 63) rfl w1.heap.size _ vs rfl _ hone rfl Hown.out Hlb.out Hvl.out ?_)
      intro v' w' ho' hb'
      have hcut : Hid (Cut w1 w' w1.heap.size bs v' (vs ++ [.slice a9 n9 c9]) (L ++ [(bs.drop f).take (bs.length - f)]) bs.length (k + 1)) := Hmore.out _ _ ho' hb'
      generalize vs ++ [.slice a9 n9 c9] = vs2 at hcut
      generalize L ++ [(bs.drop f).take (bs.length - f)] = L2 at hcut
      clear ho' hb' Hmore Hown hcs2
      have hrw := hcut.out.own.rw hcut.out.len hcut.out.sl hcut.out.up
      have hall := hcut.out.all
      rw [List.take_length] at hall
      have hL2 : (L2.length : Int) ≤ 2000001 := by have h1 := hcut.out.few; have h2 := hcut.out.len; have := Hmany.out; omega
      have hup' := hcut.out.up
      have hlen : ∀ l ∈ L2, l.length ≤ 140737488355328 := fun l hl => by have := piece_le hl; rw [hall] at this; omega
      have ht' := ht.up (hu.trans hup')
      have k1 := Sum_any 0 _ bs w' ht' (hs1.out.up hup') (by omega)
      have k2 := SumOf_any _ L2 w' ht' hrw (by omega) hlen
      rw [hall] at k2
      have Hall : Hid (L2.flatten = bs) := hall
      have HL : Hid (∀ l ∈ L2, l.length ≤ 140737488355328) := hlen
      have Hst : Hid (U (sumC ([] : List (List UInt8)).flatten) = .int .u32 0) := congrArg U sumC_nil
      have hbsum : Hid (sumC L2.flatten = sumC bs) := by show _ = _; rw [hall]
      have U' := hu.trans hup'
      obtain ⟨ap, cp, rfl, hcp, hrx⟩ := hrw
      clear hcut hall hlen hs1 Hs
      generalize sumC bs = whole at k1 k2 hbsum
      go_wp2_with fail
      refine k1.mono ?_
      rintro e w5 ⟨rfl, rfl⟩
      clear k1
      go_wp2
      go_loopg [10, 11, 12, 13] L2.length (fun g ad jn i s13 wr => w5 = wr ∧ ∃ k : Nat, k ≤ L2.length ∧ g = L2.length - k ∧ i = .int .i64 k ∧ ad = U (sumC (L2.take k).flatten) ∧ jn = U (sumC (L2.take k).flatten))
      case atStart => exact ⟨rfl, 0, by omega, rfl, rfl, Hst.out.symm, Hst.out.symm⟩
      case round =>
        obtain ⟨rfl, k, hk, rfl, rfl, rfl, rfl⟩ := hrel
        by_cases hlt : k < L2.length
        · obtain ⟨b, o, rfl, hat⟩ := hrx (by rintro rfl; simp at hlt)
          obtain ⟨vi, hca, hsl⟩ := hat k hlt
          have hli := HL.out _ (List.getElem_mem hlt)
          have ha := Add_any 0 (sumC (L2.take k).flatten) vi L2[k] w5 ht' hsl hli
          have hb := Sum_any 0 vi L2[k] w5 ht' hsl hli
          have hj := Join_any (sumC (L2.take k).flatten) (sumC L2[k]) (L2[k].length : Int) (by omega) (by omega) w5
          rw [Int.toNat_natCast, ← addC_join, ← sumC_take L2 k hlt] at hj
          rw [← sumC_take L2 k hlt] at ha
          have Hlt : Hid (k < L2.length) := hlt
          obtain ⟨ai, ci, rfl, _⟩ := hsl
          obtain ⟨Z, hZ⟩ : ∃ Z, sumC (L2.take (k + 1)).flatten = Z := ⟨_, rfl⟩
          have HZ : Hid (sumC (L2.take (k + 1)).flatten = Z) := hZ
          rw [hZ] at ha hj
          generalize sumC L2[k] = sk at hb hj
          generalize (L2[k]).length = lk at ha hb hj hca hli
          clear hZ hrx hat
          go_wp2_with fail
          refine ha.mono ?_
          rintro e w6 ⟨rfl, rfl⟩
          go_wp2_with fail
          refine hb.mono ?_
          rintro e w7 ⟨rfl, rfl⟩
          go_wp2_with fail
          refine hj.mono ?_
          rintro e w8 ⟨rfl, rfl⟩
          clear ha hb hj
          go_wp2
          go_roundg (L2.length - (k + 1))
          case measure => have := Hlt.out; omega
          case rel => exact ⟨rfl, k + 1, Hlt.out, rfl, by go_num, by rw [HZ.out], by rw [HZ.out]⟩
        · obtain rfl : k = L2.length := by omega
          rw [List.take_length, hbsum.out]
          clear hlt hrx
          go_wp2_with fail
          refine k2.mono ?_
          rintro e w6 ⟨rfl, rfl⟩
          clear k2
          go_wp2
          go_ret
          exact ⟨rfl, U'⟩
end Go.Proofs.YtikdmnfmnkmffaaDoor
