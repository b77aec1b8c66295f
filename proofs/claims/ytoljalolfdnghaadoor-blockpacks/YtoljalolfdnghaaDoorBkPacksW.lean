/- block: the law BlockPacks. -/
import Derived.Test.YtoljalolfdnghaaDoorBkFront
set_option linter.unusedVariables false
set_option linter.unusedSimpArgs false
namespace Go.Proofs.YtoljalolfdnghaaDoor
open Go Go.RowKit

theorem mid_cut {base : Nat} {w : World} {v : Value} {b : List UInt8} (hs : Sl base w v b) (l n : Nat) (hn : l + n ≤ b.length) : ∃ ao cap, Sl base w (.slice ao n cap) ((b.drop l).take n) ∧ ∀ u, (Instr.slice 28 v (some (.int .i64 (l : Int))) (some (.int .i64 ((l + n : Nat) : Int))) none).run Tryd.prog u = .ok (.slice ao n cap) u := by
  obtain ⟨v4, hs4, hcut, _, _⟩ := sl_cut hs l (l + n) (by omega) hn
  rw [Nat.add_sub_cancel_left] at hs4
  have hs5 := hs4
  obtain ⟨ao4, cap4, rfl, _⟩ := hs4
  rw [show ((b.drop l).take n).length = n by rw [List.length_take, List.length_drop]; omega] at hs5 hcut
  exact ⟨ao4, cap4, hs5, hcut⟩

set_option maxRecDepth 20000 in
set_option maxHeartbeats 12800000 in
theorem BlockPacks_any (first : Nat) (v : Value) (L : List (List UInt8)) (w : World) (ad : Nat → Addr) (hk : Kn w ad) (hf : first < 18446744073709551616) (hv : Rw w v L) (hn : L.length ≤ 140737488355328) (hl : ∀ r ∈ L, r.length ≤ 140737488355328) :
    Calls Tryd.prog 7 #[.int .u64 (first : Int), v] w fun e w' => e = .returned (.bool true) ∧ Up w w' := by
  have haw := awake_any w ad hk.tb hk.gl
  obtain ⟨ao, cap, hvv⟩ := hv.slice
  obtain ⟨N, hN⟩ : ∃ N, L.length = N := ⟨_, rfl⟩
  have HL : Hid (Rw w v L ∧ L.length = N ∧ ∀ r ∈ L, r.length ≤ 140737488355328) := ⟨hv, hN, hl⟩
  have HK : Hid (Kn w ad) := hk
  rw [hN] at hvv hn
  subst hvv
  clear hv hN hl hk
  go_enter Tryd.func7, Tryd.ntmps7
  go_wp2_with fail
  refine haw.mono ?_
  rintro e w1 ⟨rfl, u1⟩
  have hmany := many_any _ L w1 (HL.out.1.up u1) (by rw [HL.out.2.1]; exact hn) HL.out.2.2
  clear haw
  by_cases hm : Many L
  · rw [decide_eq_true hm] at hmany
    clear hm
    go_wp2_with fail
    refine hmany.mono ?_
    rintro e w2 ⟨rfl, e2⟩
    obtain rfl : w1 = w2 := e2.symm
    clear hmany
    go_wp2
    go_ret
    exact ⟨rfl, u1⟩
  rw [decide_eq_false hm] at hmany
  have hN20 : N ≤ 1048576 := by rw [← HL.out.2.1]; unfold Many at hm; omega
  have HT : Hid (totN L ≤ 16777216) := by show _ ≤ _; unfold Many at hm; omega
  clear hm
  have hni : (N : Int) ≤ 1048576 := by omega
  have hn0 : (0 : Int) ≤ (N : Int) := by omega
  clear hn
  go_wp2_with fail
  refine hmany.mono ?_
  rintro e w2 ⟨rfl, e2⟩
  obtain rfl : w1 = w2 := e2.symm
  clear hmany
  have hcp := copied_any _ L w1 (HL.out.1.up u1) (by rw [HL.out.2.1]; omega) HL.out.2.2
  go_wp2_with fail
  refine hcp.mono ?_
  rintro e w2 ⟨v2, vs2, rfl, r2, u2⟩
  clear hcp
  have U2 := u1.trans u2
  have hpk := Pack_any first v2 L w2 ad (HK.out.tb.up U2) (HK.out.gl.up U2) hf r2.recs.rw (by rw [HL.out.2.1]; omega)
  obtain ⟨a2, c2, rfl⟩ := r2.recs.slice
  rw [HL.out.2.1] at hpk ⊢
  clear r2 u2
  go_wp2_with fail
  refine hpk.mono ?_
  rintro e w3 ⟨v3, rfl, o3, u3⟩
  clear hpk
  have U3 := U2.trans u3
  have HU3 : Hid (Up w w3) := U3
  clear U2 u3 u1
  obtain ⟨a3, c3, e3⟩ := o3.sl.slice
  by_cases h0 : L = []
  · subst h0
    have eR : pkR first [] = [] := by unfold pkR; split <;> rfl
    have eE : pkE ad first [] = .nilIface := by rw [pkE, if_pos rfl]
    have e0 : N = 0 := HL.out.2.1.symm
    subst e0
    rw [eR] at e3 o3
    have e3 : v3 = .slice a3 0 c3 := e3
    subst e3
    rw [eE]
    clear eE eR
    go_wp2_with (at_builtin; refine wpList_bytes_any _ rfl (.tmp 53) (.tmp 54) rfl w3.heap.size w2.heap.size _ _ [] [] rfl rfl (own_built w3 [] (by simp)) (o3.sl.up (Up.alloc _ _)) (by simp) (by simp) ?_)
    intro v5 w5 o5 g5
    have u5 : Up w3 w5 := grown_up (Up.alloc w3 (.cells #[] 5)) g5 (fun x hx => by cases hx; exact Nat.le_refl _)
    have U5 := HU3.out.trans u5
    have hsc1 := Scan_any w3.heap.size _ (.slice none 0 0) _ [] first w5 ad (HK.out.tb.up U5) (HK.out.gl.up U5) o5.sl (SlI.nil _) (by simp) (by simp) (by simp) hf
    have e5 : (scanB (badOf []) (([] : List UInt8).length / 512) [] 0 first) = ([], 0) := rfl
    rw [e5] at hsc1
    obtain ⟨a5, c5, e5'⟩ := o5.sl.slice
    have e5' : v5 = .slice a5 0 c5 := e5'
    subst e5'
    clear g5 o5 e5 u5 o3
    go_wp2_with fail
    refine hsc1.mono ?_
    rintro e w6 ⟨v6, vs6, rfl, r6, u6⟩
    clear hsc1
    have U6 := U5.trans u6
    obtain ⟨a6, c6, e6⟩ := r6.slice
    have e6 : v6 = .slice a6 0 c6 := e6
    subst e6
    clear r6 u6 U5
    go_wp2
    go_ret
    exact ⟨rfl, U6⟩
  have hNpos : 0 < N := by rw [← HL.out.2.1]; exact List.length_pos_iff.2 h0
  have hnz : ((N : Int) == 0) = false := by simp; omega
  have hnp : (0 : Int) < (N : Int) := by omega
  by_cases hok : NumOk first L.length ∧ anyLong L = false
  · obtain ⟨gs, hp, hfit, hflat, hfull, hne, hgl⟩ := pk_parts hok.1 hok.2
    have eE : pkE ad first L = .nilIface := by rw [pkE, if_neg h0, if_pos hok.1, if_neg (by rw [hok.2]; simp)]
    have eR : pkR first L = pkB first gs := by rw [pkR, if_pos hok, hp]
    have hpl := pkB_length first gs hfit
    obtain ⟨G, hG⟩ : ∃ G, gs.length = G := ⟨_, rfl⟩
    rw [hG] at hpl hgl
    rw [eR, hpl] at e3
    rw [eR] at o3
    rw [eE]
    subst e3
    have hG0 : (0 : Int) ≤ (G : Int) := by omega
    have hGi2 : (G : Int) ≤ 1048576 := by have := HL.out.2.1; omega
    have HP : Hid (Own w3 5 w2.heap.size (.slice a3 (512 * G) c3) (pkB first gs) ∧ Fits first gs ∧ gs.flatten = L ∧ gs.length = G ∧ (pkB first gs).length = 512 * G ∧ FullB gs ∧ ∀ g ∈ gs, g ≠ []) := ⟨o3, hfit, hflat, hG, hpl, hfull, hne⟩
    clear o3 hok hp hfit hflat hfull hne hgl eE eR hpl hG
    go_wp2_with (at_builtin; refine wpList_bytes_any _ rfl (.tmp 53) (.tmp 54) rfl w3.heap.size w2.heap.size _ _ [] (pkB first gs) rfl rfl (own_built w3 [] (by simp)) (HP.out.1.sl.up (Up.alloc _ _)) (by simp) (by rw [HP.out.2.2.2.2.1]; simp; omega) ?_)
    intro v5 w5 o5 g5
    have u5 : Up w3 w5 := grown_up (Up.alloc w3 (.cells #[] 5)) g5 (fun x hx => by cases hx; exact Nat.le_refl _)
    have U5 := HU3.out.trans u5
    have hsc1 := Scan_any w3.heap.size _ (.slice none 0 0) _ [] first w5 ad (HK.out.tb.up U5) (HK.out.gl.up U5) o5.sl (SlI.nil _) (by rw [HP.out.2.2.2.2.1]; omega) (by simp) (by simp) hf
    have hst1 := scan_stop (badOf []) HP.out.2.1 (fun j _ => by rw [badOf_nil]) [] (.inr (.inl (by simp))) _ rfl
    rw [List.append_nil, HP.out.2.2.1, HP.out.2.2.2.1] at hst1
    rw [hst1] at hsc1
    obtain ⟨a5, c5, rfl⟩ := o5.sl.slice
    rw [HP.out.2.2.2.2.1] at hsc1 ⊢
    clear hst1 g5 o5
    go_wp2_with fail
    refine hsc1.mono ?_
    rintro e w6 ⟨vC, vsC, rfl, rC, u6⟩
    clear hsc1
    have U6 := U5.trans u6
    have UP6 := u5.trans u6
    have hal := alike_any vC (.slice ao N cap) L L w6 rC.rw (HL.out.1.up U6) (by rw [HL.out.2.1]; omega) (by rw [HL.out.2.1]; omega) HL.out.2.2 HL.out.2.2
    rw [decide_eq_true rfl] at hal
    obtain ⟨aC, cC, rfl⟩ := rC.slice
    rw [HL.out.2.1] at hal ⊢
    clear rC u5 u6 U5
    have hm512 : (512 * (G : Int)) % 512 = 0 := by omega
    have hd512 : (512 * (G : Int)) / 512 = (G : Int) := by omega
    go_wp2_with fail
    refine hal.mono ?_
    rintro e w7 ⟨rfl, hw7⟩
    have u7 := drew_up hw7
    have H7 : Hid (Up w w7 ∧ Sl 0 w7 (.slice a3 (512 * G) c3) (pkB first gs)) := ⟨U6.trans u7, (HP.out.1.sl.mono (Nat.zero_le _)).up (UP6.trans u7)⟩
    clear hal hw7 u7 U6 UP6 HU3 U3
    go_wp2
    clear hm512 hd512
    go_loopg [10, 11] G (fun g at_ i wr => ∃ k c : Nat, k ≤ G ∧ G - k = g ∧ i = .int .i64 (k : Int) ∧ at_ = .int .i64 (c : Int) ∧ (c : Int) ≤ (N : Int) ∧ Hid (Up w wr ∧ Sl 0 wr (.slice a3 (512 * G) c3) (pkB first gs) ∧ c = cntB (gs.take k)))
    case atStart => exact ⟨0, 0, by omega, rfl, rfl, rfl, by omega, H7.out.1, H7.out.2, rfl⟩
    case round =>
      clear H7
      obtain ⟨k, c, hkG, rfl, rfl, rfl, hcN, HR⟩ := hrel
      by_cases hlt : k < G
      · have Hlt : Hid (k < G) := hlt
        have hki : (k : Int) < (G : Int) := by omega
        have hk0 : (0 : Int) ≤ (k : Int) := by omega
        have hc0 : (0 : Int) ≤ (c : Int) := by omega
        have hkg : k < gs.length := by rw [HP.out.2.2.2.1]; exact hlt
        obtain ⟨aq, cq, hsq, hcut⟩ := mid_cut HR.out.2.1 (512 * k) 512 (by rw [HP.out.2.2.2.2.1]; omega)
        rw [show ((512 * k : Nat) : Int) = 512 * (k : Int) from by omega, show ((512 * k + 512 : Nat) : Int) = 512 * (k : Int) + 512 from by omega] at hcut
        rw [pkB_block HP.out.2.1 k hkg] at hsq
        have hfk := Fits.get k hkg HP.out.2.1
        have hnx := cnt_next gs k hkg
        have hft := (flat_take HP.out.2.2.1 (k + 1)).2
        have hcn := cuts_next HP.out.2.2.1 HP.out.2.2.2.2.2.1 HP.out.2.2.2.2.2.2 k hkg
        have hbt := bodyB_tot gs[k]
        have hroom := hfk.room
        have hblen := blkB_length (first := first + cntB (gs.take k)) hroom
        have hdd := dec_blk hfk
        have hgne := List.length_pos_iff.2 hfk.one
        rw [hbt] at hcn hroom
        obtain ⟨g, hg⟩ : ∃ g, gs[k]'hkg = g := ⟨_, rfl⟩
        rw [hg] at hsq hnx hcn hroom hblen hdd hgne hbt
        rw [← HR.out.2.2] at hsq hnx hblen hdd
        have hg200 : ∀ r ∈ g, r.length ≤ 140737488355328 := fun r hr => by have := hfk.long r (by rw [hg]; exact hr); omega
        obtain ⟨b, hb⟩ : ∃ b, blkB (first + c) g = b := ⟨_, rfl⟩
        rw [hb] at hsq hblen hdd
        obtain ⟨m, hm⟩ : ∃ m, g.length = m := ⟨_, rfl⟩
        rw [hm] at hnx hcn hroom hgne
        obtain ⟨T, hT⟩ : ∃ T, totN g = T := ⟨_, rfl⟩
        rw [hT] at hcn hroom
        rw [HL.out.2.1] at hft
        rw [hnx] at hft
        have hcn2 : ∀ h : c + m < L.length, 494 < 2 * m + T + 2 + (L[c + m]'h).length := fun h => by
          have := hcn (by rw [hnx]; exact h)
          simp only [hnx] at this
          exact this
        have HH : Hid (g.length = m ∧ totN g = T ∧ (∀ r ∈ g, r.length ≤ 140737488355328) ∧ decB b = .ok (first + c, g) ∧ b.length = 512 ∧ c + m = cntB (gs.take (k + 1)) ∧ ∀ h : c + m < L.length, 494 < 2 * m + T + 2 + (L[c + m]'h).length) := ⟨hm, hT, hg200, hdd, hblen, hnx.symm, hcn2⟩
        have hm0 : (0 : Int) < (m : Int) := by omega
        have hmz : ((m : Int) == 0) = false := by simp; omega
        have hm247 : (m : Int) ≤ 247 := by omega
        have hcm : (c : Int) + (m : Int) ≤ (N : Int) := by omega
        have hT494 : (T : Int) ≤ 494 := by omega
        have hT0 : (0 : Int) ≤ (T : Int) := by omega
        have Hsq : Hid (Sl 0 wr (.slice aq 512 cq) b) := hsq
        clear hfk hnx hft hcn hbt hroom hblen hdd hgne hg hg200 hb hm hT hcn2 hsq hkg hlt
        go_wp2_with (at_builtin; refine wpList_bytes_any _ rfl (.tmp 98) (.tmp 105) rfl wr.heap.size 0 _ _ [] b rfl rfl (own_built wr [] (by simp)) (Hsq.out.up (Up.alloc _ _)) (by simp) (by rw [HH.out.2.2.2.2.1]; simp) ?_)
        intro v8 w8 o8 g8
        have u8 : Up wr w8 := grown_up (Up.alloc wr (.cells #[] 5)) g8 (fun x hx => by cases hx; exact Nat.le_refl _)
        have U8 := HR.out.1.trans u8
        have hdec := Decode_any wr.heap.size _ _ w8 ad (HK.out.tb.up U8) o8.sl (HK.out.gl.up U8)
        rw [HH.out.2.2.2.1] at hdec
        obtain ⟨a8, c8, rfl⟩ := o8.sl.slice
        rw [HH.out.2.2.2.2.1] at hdec ⊢
        clear g8 o8 hcut
        go_wp2_with fail
        refine hdec.mono ?_
        rintro e w9 ⟨⟨v9, vs9, rfl, r9⟩, u9⟩
        clear hdec
        have U9 := U8.trans u9
        have U89 := u8.trans u9
        have hsz := size_any v9 g w9 r9.rw (by rw [HH.out.1]; omega) HH.out.2.2.1
        obtain ⟨a9, c9, rfl⟩ := r9.slice
        rw [HH.out.1, HH.out.2.1] at hsz
        rw [HH.out.1]
        clear r9 u8 u9 U8
        go_wp2_with fail
        refine hsz.mono ?_
        rintro e w10 ⟨⟨y, rfl, hy⟩, e10⟩
        obtain rfl : w9 = w10 := e10.symm
        clear hsz
        rcases hy with ⟨hy1, rfl⟩ | ⟨_, hbad⟩
        · have H10 : Hid (Up w w9 ∧ Sl 0 w9 (.slice a3 (512 * G) c3) (pkB first gs) ∧ c + m = cntB (gs.take (k + 1))) := ⟨U9, HR.out.2.1.up U89, HH.out.2.2.2.2.2.1⟩
          by_cases hend : (c : Int) + (m : Int) < (N : Int)
          · have hcl : c + m < L.length := by rw [HL.out.2.1]; omega
            have hbig := HH.out.2.2.2.2.2.2 hcl
            obtain ⟨b', o', c1, x, e1, h1⟩ := HL.out.1.at (c + m) hcl
            simp only [Value.slice.injEq] at e1
            obtain ⟨rfl, z1, rfl⟩ := e1
            clear z1
            obtain ⟨d1, hs1⟩ := h1 w9 U9
            obtain ⟨ax, cx, rfl⟩ := hs1.slice
            have hRl : (L[c + m]'hcl).length ≤ 140737488355328 := HL.out.2.2 _ (List.getElem_mem hcl)
            obtain ⟨R, hR⟩ : ∃ R, (L[c + m]'hcl).length = R := ⟨_, rfl⟩
            rw [hR] at d1 hbig hRl
            have hR0 : (R : Int) ≤ 140737488355328 := by omega
            have hbi : ¬ 2 * (m : Int) + (y : Int) + 2 + (R : Int) ≤ 494 := by omega
            have hcm2 : (0 : Int) ≤ (c : Int) + (m : Int) := by omega
            clear hbig h1 hs1 hR hRl hcl U9 U89 HR HH
            go_wp2
            go_roundg (G - (k + 1))
            case measure => have := Hlt.out; omega
            case rel => exact ⟨k + 1, c + m, Hlt.out, rfl, by go_num, by go_num, by omega, H10.out⟩
          · clear U9 U89 HR HH
            go_wp2
            go_roundg (G - (k + 1))
            case measure => have := Hlt.out; omega
            case rel => exact ⟨k + 1, c + m, Hlt.out, rfl, by go_num, by go_num, by omega, H10.out⟩
        · exact absurd hbad (by omega)
      · obtain rfl : k = G := by omega
        have hcN : c = N := by
          rw [HR.out.2.2, List.take_of_length_le (by rw [HP.out.2.2.2.1]; omega)]
          unfold cntB
          rw [HP.out.2.2.1, HL.out.2.1]
        subst hcN
        have hup := HR.out.1
        clear HR HP hlt
        go_wp2
        go_ret
        exact ⟨rfl, hup⟩
  · have eR : pkR first L = [] := by rw [pkR, if_neg hok]
    rw [eR] at e3
    have e3 : v3 = .slice a3 0 c3 := e3
    subst e3
    have K3 := HK.out.up U3
    have cA := K3.cell 0 (by simp)
    have cL := K3.cell 1 (by simp)
    have nLA := K3.ne 1 0 (by simp) (by simp) (by decide)
    have sA := eq_same (ad 0)
    have sL := eq_same (ad 1)
    by_cases h1 : NumOk first L.length
    · have hx : pkE ad first L = eLong ad := by
        rw [pkE, if_neg h0, if_pos h1, if_pos]
        cases h : anyLong L with
        | true => rfl
        | false => exact absurd ⟨h1, h⟩ hok
      rw [hx]
      clear o3 eR hx hok K3 h1 h0 HU3
      go_wp2
      go_ret
      exact ⟨rfl, U3⟩
    · have hx : pkE ad first L = eArg ad := by rw [pkE, if_neg h0, if_neg h1]
      rw [hx]
      clear o3 eR hx hok K3 h1 h0 HU3
      go_wp2
      go_ret
      exact ⟨rfl, U3⟩
end Go.Proofs.YtoljalolfdnghaaDoor
