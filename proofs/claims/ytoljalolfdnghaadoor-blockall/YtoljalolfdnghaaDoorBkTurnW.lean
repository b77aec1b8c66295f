/- block: the law BlockTurned. -/
import Derived.Test.YtoljalolfdnghaaDoorBkKn
import Derived.Laws.BitsAllLaws
set_option linter.unusedVariables false
set_option linter.unusedSimpArgs false
namespace Go.Proofs.YtoljalolfdnghaaDoor
open Go Go.RowKit

theorem xor_byte8 (c d : UInt8) : bits .xor .u8 (c.toNat : Int) (d.toNat : Int) = ((c ^^^ d).toNat : Int) := by
  have := u8_xor_nat c.toNat d.toNat c.toNat_lt d.toNat_lt
  rw [this, UInt8.toNat_xor]
theorem xor_other (c d : UInt8) (h : d ≠ 0) : c ^^^ d ≠ c := by
  intro e
  apply h
  have : c ^^^ (c ^^^ d) = c ^^^ c := by rw [e]
  rwa [← UInt8.xor_assoc, UInt8.xor_self, UInt8.zero_xor] at this
/-- A turned block is scanned to nothing. -/
theorem scan_bad {d : List UInt8} {e : DecE} (hl : d.length = 512) (h : decB d = .error e) (due : Nat) : scanB (badOf []) 1 d 0 due = ([], 0) := by
  rw [scanB, if_neg (by rw [badOf_nil]; simp; omega), List.take_of_length_le (by omega), h]

set_option maxRecDepth 20000 in
set_option maxHeartbeats 6400000 in
theorem BlockTurned_any (first : Nat) (v : Value) (L : List (List UInt8)) (at_ : Int) (xb : Nat) (w : World) (ad : Nat → Addr) (hk : Kn w ad) (hf : first < 18446744073709551616) (hv : Rw w v L) (hn : L.length ≤ 140737488355328) (hl : ∀ r ∈ L, r.length ≤ 140737488355328)
    (ha1 : -9223372036854775808 ≤ at_) (ha2 : at_ ≤ 9223372036854775807) (hx : xb < 256) :
    Calls Tryd.prog 6 #[.int .u64 (first : Int), v, .int .i64 at_, .int .u8 (xb : Int)] w fun e w' => e = .returned (.bool true) ∧ Up w w' := by
  have haw := awake_any w ad hk.tb hk.gl
  obtain ⟨ao, cap, hvv⟩ := hv.slice
  obtain ⟨N, hN⟩ : ∃ N, L.length = N := ⟨_, rfl⟩
  have HL : Hid (Rw w v L ∧ L.length = N ∧ ∀ r ∈ L, r.length ≤ 140737488355328) := ⟨hv, hN, hl⟩
  have HK : Hid (Kn w ad) := hk
  rw [hN] at hvv hn
  subst hvv
  clear hv hN hl hk
  go_enter Tryd.func6, Tryd.ntmps6
  go_wp2_with fail
  refine haw.mono ?_
  rintro e w1 ⟨rfl, u1⟩
  have hmany := many_any _ L w1 (HL.out.1.up u1) (by rw [HL.out.2.1]; exact hn) HL.out.2.2
  clear haw
  by_cases hm : Many L
  · rw [decide_eq_true hm] at hmany
    clear hm
    go_wp2_with fail
    refine hmany.mono ?_
    rintro e w2 ⟨rfl, e2⟩
    obtain rfl : w1 = w2 := e2.symm
    clear hmany
    go_wp2
    go_ret
    exact ⟨rfl, u1⟩
  · rw [decide_eq_false hm] at hmany
    have hN20 : N ≤ 1048576 := by rw [← HL.out.2.1]; unfold Many at hm; omega
    clear hm
    have hni : (N : Int) ≤ 1048576 := by omega
    have hn0 : (0 : Int) ≤ (N : Int) := by omega
    clear hn
    go_wp2_with fail
    refine hmany.mono ?_
    rintro e w2 ⟨rfl, e2⟩
    obtain rfl : w1 = w2 := e2.symm
    clear hmany
    have hcp := copied_any _ L w1 (HL.out.1.up u1) (by rw [HL.out.2.1]; omega) HL.out.2.2
    go_wp2_with fail
    refine hcp.mono ?_
    rintro e w2 ⟨v2, vs2, rfl, r2, u2⟩
    clear hcp
    have U2 := u1.trans u2
    have henc := Encode_any first v2 L w2 ad (HK.out.tb.up U2) (HK.out.gl.up U2) hf r2.recs.rw (by rw [HL.out.2.1]; omega)
    obtain ⟨a2, c2, rfl⟩ := r2.recs.slice
    rw [HL.out.2.1] at henc ⊢
    clear r2 u2
    go_wp2_with fail
    refine henc.mono ?_
    rintro e w3 ⟨v3, rfl, o3, u3⟩
    clear henc
    have U3 := U2.trans u3
    have HU3 : Hid (Up w w3 ∧ Up w w1) := ⟨U3, u1⟩
    clear U2 u3 u1 U3
    obtain ⟨a3, c3, e3⟩ := o3.sl.slice
    by_cases hok : NumOk first L.length ∧ ¬ (anyLong L = true ∨ 494 < (bodyB L).length)
    · have hfit : FitB first L := fitB_of hok.1 (by cases h : anyLong L with | true => exact absurd (.inl h) hok.2 | false => rfl) (by have := hok.2; omega)
      have eE : encE ad first L = .nilIface := by rw [encE, if_pos hok.1, if_neg hok.2]
      have eR : encR first L = blkB first L := by rw [encR, if_pos hok]
      have hbl := blkB_length (first := first) hfit.room
      have hdd := dec_blk hfit
      rw [eR, hbl] at e3
      rw [eR] at o3
      rw [eE]
      subst e3
      have HD : Hid (decB (blkB first L) = .ok (first, L) ∧ (blkB first L).length = 512) := ⟨hdd, hbl⟩
      clear hok hfit eE eR hbl hdd
      by_cases hneg : at_ < 0
      · clear o3
        go_wp2
        go_ret
        exact ⟨rfl, HU3.out.1⟩
      · obtain ⟨t, rfl⟩ := Int.eq_ofNat_of_zero_le (show 0 ≤ at_ by omega)
        by_cases hbig : (512 : Int) ≤ (t : Int)
        · clear o3
          go_wp2
          go_ret
          exact ⟨rfl, HU3.out.1⟩
        · by_cases hx0 : xb = 0
          · subst hx0
            have hlt : (t : Int) < 512 := by omega
            clear o3
            go_wp2
            go_ret
            exact ⟨rfl, HU3.out.1⟩
          · have hlt : (t : Int) < 512 := by omega
            have htn : t < 512 := by omega
            have hxz : ((xb : Int) == 0) = false := by simp; omega
            obtain ⟨X, hX, hXne⟩ : ∃ X : UInt8, (X.toNat : Int) = (xb : Int) ∧ X ≠ 0 := by
              refine ⟨UInt8.ofNat xb, by rw [UInt8.toNat_ofNat']; omega, fun h => hx0 ?_⟩
              have := congrArg UInt8.toNat h
              rw [UInt8.toNat_ofNat'] at this
              simp at this
              omega
            have Htn : Hid (t < 512) := htn
            clear hneg hbig hx0 htn ha1 ha2
            rw [← hX] at hxz ⊢
            clear hX
            go_wp2_with (at_builtin; refine wpList_bytes_any _ rfl (.tmp 49) (.tmp 50) rfl w3.heap.size w2.heap.size _ _ [] (blkB first L) rfl rfl (own_built w3 [] (by simp)) (o3.sl.up (Up.alloc _ _)) (by simp) (by rw [HD.out.2]; simp) ?_)
            intro v5 w5 o5 g5
            have u5 : Up w3 w5 := grown_up (Up.alloc w3 (.cells #[] 5)) g5 (fun x hx => by cases hx; exact Nat.le_refl _)
            have U5 := HU3.out.1.trans u5
            have hb512 := HD.out.2
            obtain ⟨g, cg, hv5, hat⟩ := o5.some (by intro e; rw [e] at hb512; simp at hb512)
            rw [hb512] at hv5
            subst hv5
            have hlen : t < (blkB first L).length := by rw [hb512]; exact Htn.out
            have hcell := hat t _ (List.getElem?_eq_getElem hlen)
            have hset := o5.set t hlen ((blkB first L)[t]'hlen ^^^ X)
            have hfz := o5.not_frozen (t := t)
            have hxor := xor_byte8 ((blkB first L)[t]'hlen) X
            have hturn := dec_turned HD.out.1 t Htn.out ((blkB first L)[t]'hlen ^^^ X) (fun h => xor_other _ _ hXne)
            have hsl : ((blkB first L).set t ((blkB first L)[t]'hlen ^^^ X)).length = 512 := by rw [List.length_set]; exact hb512
            obtain ⟨D, hD⟩ : ∃ D, (blkB first L).set t ((blkB first L)[t]'hlen ^^^ X) = D := ⟨_, rfl⟩
            rw [hD] at hset hturn hsl
            obtain ⟨Y, hY⟩ : ∃ Y, (blkB first L)[t]'hlen ^^^ X = Y := ⟨_, rfl⟩
            rw [hY] at hset hxor
            obtain ⟨C, hC⟩ : ∃ C, (blkB first L)[t]'hlen = C := ⟨_, rfl⟩
            rw [hC] at hcell hxor
            have hge : w3.heap.size ≤ g := (World.ownsRow.lt o5 g rfl).1
            have H6 : Hid (Own (w5.setCell ⟨g, t, none⟩ (B Y)) 5 w3.heap.size (.slice (some ⟨g, 0, none⟩) 512 cg) D ∧ Up w (w5.setCell ⟨g, t, none⟩ (B Y)) ∧ D.length = 512 ∧ (decB D = .error .form ∨ decB D = .error .sum)) :=
              ⟨hset, Below.setCell U5 (Nat.le_trans HU3.out.1.size hge) _, hsl, hturn⟩
            clear hset hturn hsl hD hY hC hat hlen hb512 o5 g5 o3 u5 U5 hge HD Htn
            have hu9 : Up (w5.setCell ⟨g, t, none⟩ (.int .u8 (Y.toNat : Int))) ((w5.setCell ⟨g, t, none⟩ (.int .u8 (Y.toNat : Int))).alloc (.cells #[] 5)) := Up.alloc _ _
            have hsz9 : (w5.setCell ⟨g, t, none⟩ (.int .u8 (Y.toNat : Int))).heap.size = w5.heap.size := by simp
            have ob9 := own_built (w5.setCell ⟨g, t, none⟩ (.int .u8 (Y.toNat : Int))) [] (by simp)
            rw [hsz9] at ob9
            have Hsz9 : Hid ((w5.setCell ⟨g, t, none⟩ (.int .u8 (Y.toNat : Int))).heap.size = w5.heap.size) := hsz9
            clear hsz9
            go_wp2_with (at_builtin; refine wpList_bytes_any _ rfl (.tmp 62) (.tmp 63) rfl w5.heap.size w3.heap.size _ _ [] D rfl rfl ob9 (H6.out.1.sl.up hu9) (by simp) (by rw [H6.out.2.2.1]; simp) ?_)
            intro v7 w7 o7 g7
            obtain ⟨wY, hwY⟩ : ∃ x, w5.setCell ⟨g, t, none⟩ (.int .u8 (Y.toNat : Int)) = x := ⟨_, rfl⟩
            have H6' : Hid (Own wY 5 w3.heap.size (.slice (some ⟨g, 0, none⟩) 512 cg) D ∧ Up w wY ∧ D.length = 512 ∧ (decB D = .error .form ∨ decB D = .error .sum)) := by rw [← hwY]; exact H6
            have hsz9 := Hsz9.out
            rw [hwY] at g7 hsz9
            have u7 : Up wY w7 := grown_up (Up.alloc wY (.cells #[] 5)) g7 (fun x hx => by cases hx; rw [hsz9]; exact Nat.le_refl _)
            have U7 := H6'.out.2.1.trans u7
            have hdec := Decode_any w5.heap.size _ _ w7 ad (HK.out.tb.up U7) o7.sl (HK.out.gl.up U7)
            obtain ⟨a7, c7, rfl⟩ := o7.sl.slice
            rw [H6'.out.2.2.1] at hdec ⊢
            have hD7 := H6'.out.1.sl.up u7
            have HD7 : Hid (Sl w3.heap.size w7 (.slice (some ⟨g, 0, none⟩) 512 cg) D) := hD7
            have H7 : Hid (D.length = 512 ∧ (decB D = .error .form ∨ decB D = .error .sum)) := H6'.out.2.2
            clear H6 H6' o7 g7 u7 hD7 hu9 hwY hcell hfz hxor Hsz9 hsz9 ob9
            go_wp2_with fail
            refine hdec.mono ?_
            rintro e w8 ⟨hT, u8⟩
            clear hdec
            have U8 := U7.trans u8
            have hsc : ∀ e, decB D = .error e → Calls Tryd.prog 20 #[.slice (some ⟨g, 0, none⟩) 512 cg, .slice none 0 0, .int .u64 (first : Int)] w8 fun e w' => ∃ v' vs, e = .returned (.tuple #[v', .int .i64 0]) ∧ Recs w' w8.heap.size v' [] vs ∧ Up w8 w' := fun er her => by
              have := Scan_any w3.heap.size _ (.slice none 0 0) D [] first w8 ad (HK.out.tb.up U8) (HK.out.gl.up U8) (HD7.out.up u8) (SlI.nil _) (by rw [H7.out.1]; omega) (by simp) (by simp) hf
              rw [H7.out.1, show 512 / 512 = 1 from rfl, scan_bad H7.out.1 her] at this
              exact this
            have K8 := HK.out.up U8
            have cF := K8.cell 3 (by simp)
            have cS := K8.cell 4 (by simp)
            rcases H7.out.2 with hd | hd
            · have hscr := hsc _ hd
              rw [hd] at hT
              obtain rfl := hT
              clear hsc hd K8 cF cS H7 HD7
              go_wp2_with fail
              refine hscr.mono ?_
              rintro e w9 ⟨v9, vs9, rfl, r9, u9⟩
              clear hscr
              have U9 := U8.trans u9
              have cF := (HK.out.up U9).cell 3 (by simp)
              have es := eq_same (ad 3)
              obtain ⟨a9, c9, e9⟩ := r9.slice
              have e9 : v9 = .slice a9 0 c9 := e9
              subst e9
              clear r9 u9 U8
              go_wp2
              go_ret
              exact ⟨rfl, U9⟩
            · have hscr := hsc _ hd
              rw [hd] at hT
              obtain rfl := hT
              clear hsc hd K8 cF cS H7 HD7
              go_wp2_with fail
              refine hscr.mono ?_
              rintro e w9 ⟨v9, vs9, rfl, r9, u9⟩
              clear hscr
              have U9 := U8.trans u9
              have cF := (HK.out.up U9).cell 3 (by simp)
              have cS := (HK.out.up U9).cell 4 (by simp)
              have ef := (HK.out.up U9).ne 4 3 (by simp) (by simp) (by decide)
              have es := eq_same (ad 4)
              obtain ⟨a9, c9, e9⟩ := r9.slice
              have e9 : v9 = .slice a9 0 c9 := e9
              subst e9
              clear r9 u9 U8
              go_wp2
              go_ret
              exact ⟨rfl, U9⟩
    · have eR : encR first L = [] := by rw [encR, if_neg hok]
      rw [eR] at e3
      have e3 : v3 = .slice a3 0 c3 := e3
      subst e3
      obtain ⟨x, hx⟩ : ∃ x, encE ad first L = E x := by
        unfold encE
        split
        · split
          · exact ⟨_, rfl⟩
          · rename_i h1 h2
            exact absurd ⟨h1, h2⟩ hok
        · exact ⟨_, rfl⟩
      rw [hx]
      clear o3 eR hx hok
      go_wp2
      go_ret
      exact ⟨rfl, HU3.out.1⟩
end Go.Proofs.YtoljalolfdnghaaDoor
