/- Merged: BkBuild. -/
import Derived.Test.YtkfjkfpodkbkaaaDoorMk27
import Derived.Deep.RegionWith
set_option linter.unusedVariables false
set_option linter.unusedSimpArgs false
namespace Go.Proofs.YtkfjkfpodkbkaaaDoor
open Go Go.RowKit

theorem ovr_zeros (A cs : List UInt8) (m : Nat) (h : cs.length ≤ m) : ovr (A ++ List.replicate m 0) A.length cs = (A ++ cs) ++ List.replicate (m - cs.length) 0 := by
  unfold ovr
  rw [List.take_left', List.drop_append, List.drop_of_length_le (by omega), Nat.add_sub_cancel_left, List.drop_replicate, List.nil_append]
  rfl
theorem bodyZ_step (pre : List Rec) (r : Rec) (h : (bodyB pre).length + 2 + r.length ≤ 494) :
    ovr (ovr (bodyZ pre) (bodyB pre).length (bl 2 r.length)) ((bodyB pre).length + 2) r = bodyZ (pre ++ [r]) := by
  have h2 := bl_length 2 r.length
  unfold bodyZ
  rw [ovr_zeros _ _ _ (by rw [h2]; omega), h2]
  have e : (bodyB pre).length + 2 = (bodyB pre ++ bl 2 r.length).length := by rw [List.length_append, h2]
  have eb : bodyB (pre ++ [r]) = bodyB pre ++ bl 2 r.length ++ r := by rw [bodyB_append, bodyB_cons, bodyB_nil, recB, List.append_nil, List.append_assoc]
  rw [e, ovr_zeros _ _ _ (by omega), eb, List.length_append, List.length_append, h2]
  congr 2
  omega

/-- While a block is built: the head, the room. -/
structure BuildR (w0 wr : World) (vh : Value) (H : List UInt8) (g : Nat) (d : List UInt8) : Prop where
  head : Own wr 5 w0.heap.size vh H
  low : ∀ k, vh.ownBlock = some k → k < g
  room : Own wr 5 w0.heap.size (.slice (some ⟨g, 0, none⟩) 494 494) d
  size : d.length = 494
  up : Up w0 wr
  base : w0.heap.size ≤ g
theorem BuildR.grow {w0 w w' : World} {vh : Value} {H : List UInt8} {g : Nat} {d : List UInt8} (h : BuildR w0 w vh H g d) (u : Up w w') : BuildR w0 w' vh H g d :=
  ⟨ownsRow_up h.head u, h.low, ownsRow_up h.room u, h.size, h.up.trans u, h.base⟩
theorem BuildR.put {w0 w w' : World} {vh : Value} {H : List UInt8} {g : Nat} {d d' : List UInt8} (h : BuildR w0 w vh H g d) (ho : Own w' 5 w0.heap.size (.slice (some ⟨g, 0, none⟩) 494 494) d') (hd : d'.length = 494) (hb : But g w w') : BuildR w0 w' vh H g d' :=
  ⟨ownsRow_but h.head hb (fun e => by have := h.low g e; omega), h.low, ho, hd, Below.trans h.up (hb.below h.base h.up.size), h.base⟩

theorem room_cut (g p : Nat) (hp : p ≤ 494) : ∃ o, (p < 494 → o = p) ∧ ∀ u, (Instr.slice 27 (.slice (some ⟨g, 0, none⟩) 494 494) (some (.int .i64 (p : Int))) none none).run Tryd.prog u = .ok (.slice (some ⟨g, o, none⟩) (494 - p) (494 - p)) u := by
  have hu : Tryd.prog.underlying 27 = some (.slice (Tryd.prog.elem 27)) := by rw [elem_bytes]; exact Tryd.underlying27
  by_cases h : p = 494
  · subst h
    refine ⟨0, fun h => by omega, fun u => ?_⟩
    rw [run_slice_l u 27 _ _ 494 hu .i64 _ (by omega) (by omega), elem_bytes, size_u8]
    simp [Result.andThen, sliced]
  · refine ⟨p, fun _ => rfl, fun u => ?_⟩
    rw [run_slice_l u 27 _ _ 494 hu .i64 _ (by omega) (by omega), elem_bytes, size_u8]
    simp [Result.andThen, sliced, Addr.add_lit]
    omega

set_option maxRecDepth 20000 in
set_option maxHeartbeats 1600000 in
theorem build_any (first : Nat) (v : Value) (L : List (List UInt8)) (w : World) (ht : Tb w) (hf : first < 18446744073709551616) (hv : Rw w v L) (hn : L.length ≤ 140737488355328) (h200 : ∀ r ∈ L, r.length ≤ 200) (hr : (bodyB L).length ≤ 494) :
    Calls Tryd.prog 20 #[.int .u64 (first : Int), v] w fun e w' => ∃ v', e = .returned v' ∧ Own w' 5 w.heap.size v' (blkB first L) ∧ Up w w' := by
  have hc := bodyB_count L
  have hv0 := hv
  obtain ⟨ao, cap, rfl, hcap, hx⟩ := hv
  obtain ⟨N, hN⟩ : ∃ N, L.length = N := ⟨_, rfl⟩
  have hN2 : (N : Int) ≤ 247 := by omega
  have kc := fun (w : World) (C : Array Value) (n c : Nat) => Lib.run_convert_bytes_const (P := Tryd.prog) w 27 5 C n c Tryd.underlying27 Tryd.underlying5
  have hmk : ∀ u : World, (Instr.makeSlice 27 (.int .i64 494) (.int .i64 494)).run Tryd.prog u = .ok (.slice (some ⟨u.heap.size, 0, none⟩) 494 494) (u.alloc (.cells (madeCells #[.int .u8 0] 494) 5)) := make_u8 494 (by omega)
  rw [hN]
  go_enter Tryd.func20, Tryd.ntmps20
  go_wp2_with fail
  have u1 : Up w (w.alloc (.cells #[.int .u8 84, .int .u8 66, .int .u8 48, .int .u8 49] 5 (4, 5))) := Up.alloc _ _
  refine (PutU64_any _ mag first _ (sl_built w mag 5 (4, 5) |>.mono (Nat.zero_le _)) (by decide) hf).mono ?_
  rintro e w1 ⟨vh, rfl, o1, v1⟩
  have U1 := u1.trans v1
  have hb1 : w.heap.size ≤ (w.alloc (.cells (Bv mag).toArray 5 (4, 5))).heap.size := by simp
  have o1' : Own w1 5 w.heap.size vh (mag ++ le 8 first) := ownsRow_low o1 hb1
  have hw16 : IntKind.u16.wrap (N : Int) = (N : Int) := by rw [IntKind.wrap_u16]; omega
  go_wp2_with fail
  refine (PutU16_any vh _ N _ (o1'.sl.mono (Nat.zero_le _)) (by simp [mag, le_length]) (by omega)).mono ?_
  rintro e w2 ⟨vh2, rfl, o2, v2⟩
  have U2 := U1.trans v2
  have o2' : Own w2 5 w.heap.size vh2 (preB first N) := by
    have := ownsRow_low (base' := w.heap.size) o2 U1.size
    rw [le_bl, le_bl] at this
    exact this
  have l2 : ∀ k, vh2.ownBlock = some k → k < w2.heap.size := fun k hk => (World.ownsRow.lt o2 k hk).2
  have H0 : Hid (BuildR w (w2.alloc (.cells (madeCells #[.int .u8 0] 494) 5)) vh2 (preB first N) w2.heap.size (bodyZ (L.take 0))) := by
    refine ⟨ownsRow_up o2' (Up.alloc _ _), l2, ?_, ?_, U2.trans (Up.alloc _ _), U2.size⟩
    · have := ownsRow_low (base' := w.heap.size) (own_made 494 (by omega) w2) U2.size
      exact this
    · simp [bodyZ, bodyB_nil]
  obtain ⟨wz, hwz⟩ : ∃ wz, w2.heap.size = wz := ⟨_, rfl⟩
  rw [hwz] at H0 l2
  have HL : Hid (Rw w (.slice ao N cap) L ∧ Tb w ∧ (∀ r ∈ L, r.length ≤ 200) ∧ (bodyB L).length ≤ 494 ∧ L.length = N) := ⟨by rw [← hN]; exact hv0, ht, h200, hr, hN⟩
  have hcc := o2'.sl
  obtain ⟨ah, ch, rfl, _⟩ := hcc
  rw [preB_length] at H0 ⊢
  clear o1 o1' o2 o2' hb1 u1 v1 v2 U1 l2 hx hv0 ht h200 hr hc hn
  go_wp2
  clear hwz U2 kc hmk
  go_loopg [7, 23] N (fun g pl i wr => ∃ k p : Nat, k ≤ N ∧ g = N - k ∧ i = .int .i64 k ∧ pl = .int .i64 (p : Int) ∧ (p : Int) ≤ 494 ∧ Hid (p = (bodyB (L.take k)).length ∧ BuildR w wr (.slice ah 14 ch) (preB first N) wz (bodyZ (L.take k))))
  case atStart => exact ⟨0, 0, by omega, rfl, rfl, rfl, by omega, rfl, H0.out⟩
  case round =>
    clear H0
    obtain ⟨k, p, hk, rfl, rfl, rfl, hp, HR⟩ := hrel
    by_cases hlt : k < N
    · obtain ⟨hrw, htb, h2, hr, hN'⟩ := HL.out
      have hlt' : k < L.length := by omega
      obtain ⟨ao2, cap2, e1, _, hx⟩ := hrw
      obtain ⟨b, o, e2, hat⟩ := hx (by rintro rfl; simp at hlt')
      simp only [Value.slice.injEq] at e1
      obtain ⟨rfl, eN, rfl⟩ := e1
      clear eN
      subst e2
      obtain ⟨vi, hc, hs⟩ := hat k hlt'
      have hlen : (L[k]'hlt').length ≤ 200 := h2 _ (List.getElem_mem hlt')
      have htk := List.take_succ_eq_append_getElem hlt'
      have hle : (bodyB (L.take (k + 1))).length ≤ 494 := by
        refine Nat.le_trans ?_ hr
        have := congrArg List.length (congrArg bodyB (List.take_append_drop (k + 1) L))
        rw [bodyB_append, List.length_append] at this
        omega
      rw [htk, bodyB_snoc_length] at hle
      have hstep := bodyZ_step (L.take k) (L[k]'hlt') hle
      have hbl : (bodyB (L.take (k + 1))).length = p + 2 + (L[k]'hlt').length := by rw [htk, bodyB_snoc_length, ← HR.out.1]
      rw [← htk, ← HR.out.1] at hstep
      rw [← HR.out.1] at hle
      obtain ⟨r, hrr⟩ : ∃ r, L[k]'hlt' = r := ⟨_, rfl⟩
      rw [hrr] at hs hlen hle hstep hbl
      have hc1 : wr.cell? ⟨b, o + k, none⟩ = some vi := by rw [HR.out.2.up.cell (World.block_lt_of_cell? w _ hc)]; exact hc
      have hs1 := hs
      obtain ⟨ar, cr, rfl, _⟩ := hs
      obtain ⟨n, hn⟩ : ∃ n, r.length = n := ⟨_, rfl⟩
      have Hn : Hid (r.length = n) := hn
      rw [hn] at hc1 hlen hle hstep hbl hs1
      have hw16 : IntKind.u16.wrap (n : Int) = (n : Int) := by rw [IntKind.wrap_u16]; omega
      obtain ⟨o1, ho1, hcut1⟩ := room_cut wz p (by omega)
      have hop := ho1 (by omega)
      rw [hop] at hcut1
      clear hop ho1
      obtain ⟨o2, ho2, hcut2⟩ := room_cut wz (p + 2) (by omega)
      rw [show ((p + 2 : Nat) : Int) = (p : Int) + 2 from by omega] at hcut2
      have Hst : Hid (ovr (ovr (bodyZ (L.take k)) p (bl 2 n)) (p + 2) r = bodyZ (L.take (k + 1)) ∧ (bodyB (L.take (k + 1))).length = p + 2 + n ∧ p + 2 + n ≤ 494 ∧ (p + 2 < 494 → o2 = p + 2) ∧ r.length = n) := ⟨hstep, hbl, hle, ho2, hn⟩
      have Hs1 : Hid (Sl 0 w (.slice ar n cr) r) := hs1
      have Hlt : Hid (k < N) := hlt
      have hn0 : (0 : Int) ≤ (n : Int) := by omega
      have hn1 : (n : Int) ≤ 200 := by omega
      have hp2 : (p : Int) + 2 ≤ 494 := by omega
      have hp0 : (0 : Int) ≤ (p : Int) := by omega
      clear hstep hbl hle ho2 hs1 hx hat hc htk htb h2 hr hN' hlt' hrr hn hlen hp Hn
      go_wp2_with fail
      go_region_with (go_at_call 29; refine (PutU16_any _ [] n _ (Sl.nil 0 _) (by simp) (by omega)).mono ?_; rintro e w3 ⟨v3, rfl, o3, u3⟩; rw [List.nil_append, le_bl] at o3; have hB := HR.out.2.grow ((Up.drew wr).trans u3); obtain ⟨w4, hcp, ho4, hb4⟩ := copy_in hB.room p p o3.sl (by rw [bl_length, hB.size]; omega) (fun _ => rfl) (494 - p) (494 - p) (by rw [bl_length]; omega); have s3 := o3.sl; obtain ⟨a3, c3, rfl, _⟩ := s3; rw [bl_length] at hcp ⊢)
      have hB4 := hB.put ho4 (by rw [ovr_length (by rw [bl_length, hB.size]; omega)]; exact hB.size) hb4
      have hst := Hst.out
      obtain ⟨w5, hcp2, ho5, hb5⟩ := copy_in hB4.room (p + 2) o2 (Hs1.out.up hB4.up) (by rw [hB4.size, hst.2.2.2.2]; exact hst.2.2.1) (fun hne => hst.2.2.2.1 (by have := List.length_pos_iff.2 hne; have := hst.2.2.1; have := hst.2.2.2.2; omega)) (492 - p) (492 - p) (by have := hst.2.2.1; have := hst.2.2.2.2; omega)
      have hB5 := hB4.put ho5 (by rw [ovr_length (by rw [hB4.size, hst.2.2.2.2]; exact hst.2.2.1)]; exact hB4.size) hb5
      rw [hst.1] at hB5
      rw [hst.2.2.2.2] at hcp2
      have H5 : Hid ((p + 2 + n = (bodyB (L.take (k + 1))).length ∧ BuildR w w5 (.slice ah 14 ch) (preB first N) wz (bodyZ (L.take (k + 1))))) := ⟨hst.2.1.symm, hB5⟩
      have hp5 : ((p + 2 + n : Nat) : Int) ≤ 494 := by have := hst.2.2.1; omega
      clear hst hB hB4 hB5 ho4 hb4 ho5 hb5 o3 HR Hs1 Hst hcut1 hcp
      go_wp2
      go_roundg (N - (k + 1))
      case measure => have := Hlt.out; omega
      case rel => exact ⟨k + 1, p + 2 + n, Hlt.out, rfl, by go_num, by go_num, hp5, H5⟩
    · obtain rfl : k = N := by omega
      obtain ⟨hrw, htb, h2, hr, hN'⟩ := HL.out
      have hR := HR.out.2
      rw [← hN', List.take_length] at hR
      rw [hN'] at hR
      have hso := sumOf_any 0 0 (.slice ah 14 ch) (.slice (some ⟨wz, 0, none⟩) 494 494) (preB first k) (bodyZ L) wr (htb.up hR.up) (hR.head.sl.mono (Nat.zero_le _)) (hR.room.sl.mono (Nat.zero_le _)) (by rw [preB_length]; omega) (by rw [hR.size]; omega)
      have HB : Hid (blkB first L = preB first k ++ (bl 4 (sumAll (preB first k) (bodyZ L)).toNat ++ bodyZ L)) := by show _ = _; rw [← hN', blkB, List.append_assoc]
      obtain ⟨S, hS⟩ : ∃ S, sumAll (preB first k) (bodyZ L) = S := ⟨_, rfl⟩
      rw [hS] at hso HB
      have HR2 : Hid (BuildR w wr (.slice ah 14 ch) (preB first k) wz (bodyZ L)) := hR
      clear hR hrw htb h2 hr hN' hlt HR hS
      go_wp2_with fail
      refine hso.mono ?_
      rintro e w3 ⟨rfl, u3⟩
      clear hso
      have h3 := HR2.out.grow u3
      go_wp2_with fail
      refine (PutU32_any _ _ S.toNat _ (h3.head.sl.mono (Nat.zero_le _)) (by rw [preB_length]; omega) (by have := S.isLt; omega)).mono ?_
      rintro e w4 ⟨v4, rfl, o4, u4⟩
      have h4 := h3.grow u4
      rw [le_bl] at o4
      have e494 : (bodyZ L).length = 494 := h4.size
      have hroom := h4.room.sl
      go_wp2_with (at_builtin; refine wpList_bytes _ rfl (.tmp 50) (.tmp 51) rfl w3.heap.size w.heap.size _ _ (bodyZ L) rfl ⟨wz, 0, none⟩ 494 (by rw [e494]; rfl) o4 (by rw [e494]; exact hroom) u4.size (by rw [List.length_append, preB_length, bl_length, e494]; omega) ?_)
      intro v' w' ho' hg'
      rw [← HB.out] at ho'
      have hfin : Up w w' := grown_up h4.up hg' (fun x hx => Nat.le_trans h3.up.size (World.ownsRow.lt o4 x hx).1)
      have hret := ownsRow_low (base' := w.heap.size) ho' h3.up.size
      clear h3 h4 o4 hg' ho' e494 hroom HR2 HB HL
      go_wp2
      go_ret
      exact ⟨_, rfl, hret, hfin⟩
end Go.Proofs.YtkfjkfpodkbkaaaDoor
