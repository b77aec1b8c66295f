/- block: the law BlockFront. -/
import Derived.Test.YtoljalolfdnghaaDoorBkKn
import Derived.Test.YtoljalolfdnghaaDoorBkCutN
set_option linter.unusedVariables false
set_option linter.unusedSimpArgs false
namespace Go.Proofs.YtoljalolfdnghaaDoor
open Go Go.RowKit

theorem pk_parts {first : Nat} {L : List Rec} (h1 : NumOk first L.length) (h2 : anyLong L = false) : ∃ gs, packB first L = pkB first gs ∧ Fits first gs ∧ gs.flatten = L ∧ FullB gs ∧ (∀ g ∈ gs, g ≠ []) ∧ gs.length ≤ L.length := by
  have h200 := anyLong_false h2
  refine ⟨cutsB L.length L, rfl, cuts_fit _ _ _ h200 h1.2.1 (by have := h1.1; have := h1.2.2; omega), cuts_flat _ _ h200 (Nat.le_refl _), cuts_full _ _ h200 (Nat.le_refl _), cuts_ne _ _ h200, ?_⟩
  have hne := cuts_ne L.length L h200
  have hfl := cuts_flat L.length L h200 (Nat.le_refl _)
  have : ∀ gs : List (List Rec), (∀ g ∈ gs, g ≠ []) → gs.length ≤ gs.flatten.length := by
    intro gs
    induction gs with
    | nil => intro _; exact Nat.le_refl _
    | cons g gs ih =>
      intro h
      have h1 := ih (fun x hx => h x (by simp [hx]))
      have h2 := List.length_pos_iff.2 (h g (by simp))
      rw [List.length_cons, List.flatten_cons, List.length_append]; omega
  have h3 := this _ hne
  rw [hfl] at h3
  exact h3

theorem ints3 (w : World) (a b c : Int) : SlI (w.alloc (.cells #[.int .i64 a, .int .i64 b, .int .i64 c] 3)) (.slice (some ⟨w.heap.size, 0, none⟩) 3 3) [a, b, c] := by
  refine ⟨_, _, rfl, Nat.le_refl _, (by intro h; cases h), fun _ => ⟨_, _, rfl, fun i hi => ?_⟩⟩
  rw [cell_of_row _ _ _ _ _ _ (heap_alloc_new _ _)]
  match i, hi with
  | 0, _ => rfl
  | 1, _ => rfl
  | 2, _ => rfl

set_option maxRecDepth 20000 in
set_option maxHeartbeats 12800000 in
theorem BlockFront_any (base : Nat) (first : Nat) (v : Value) (L : List (List UInt8)) (kk : Int) (vj : Value) (J : List UInt8) (w : World) (ad : Nat → Addr) (hk : Kn w ad) (hf : first < 18446744073709551616) (hv : Rw w v L) (hn : L.length ≤ 140737488355328) (hl : ∀ r ∈ L, r.length ≤ 140737488355328)
    (hk1 : -9223372036854775808 ≤ kk) (hk2 : kk ≤ 9223372036854775807) (hj : Sl base w vj J) (hjl : J.length ≤ 140737488355328) :
    Calls Tryd.prog 8 #[.int .u64 (first : Int), v, .int .i64 kk, vj] w fun e w' => e = .returned (.bool true) ∧ Up w w' := by
  have haw := awake_any w ad hk.tb hk.gl
  obtain ⟨ao, cap, hvv⟩ := hv.slice
  obtain ⟨aj, cj, hvj⟩ := hj.slice
  obtain ⟨N, hN⟩ : ∃ N, L.length = N := ⟨_, rfl⟩
  obtain ⟨Q, hQ⟩ : ∃ Q, J.length = Q := ⟨_, rfl⟩
  have HL : Hid (Rw w v L ∧ L.length = N ∧ (∀ r ∈ L, r.length ≤ 140737488355328) ∧ Sl 0 w vj J ∧ J.length = Q) := ⟨hv, hN, hl, hj.mono (Nat.zero_le _), hQ⟩
  have HK : Hid (Kn w ad) := hk
  rw [hN] at hvv hn
  rw [hQ] at hvj hjl
  subst hvv hvj
  clear hv hN hl hk hj hQ
  have hq0 : (0 : Int) ≤ (Q : Int) := by omega
  go_enter Tryd.func8, Tryd.ntmps8
  go_wp2_with fail
  refine haw.mono ?_
  rintro e w1 ⟨rfl, u1⟩
  have hmany := many_any _ L w1 (HL.out.1.up u1) (by rw [HL.out.2.1]; exact hn) HL.out.2.2.1
  clear haw
  by_cases hm : Many L
  · rw [decide_eq_true hm] at hmany
    clear hm
    go_wp2_with fail
    refine hmany.mono ?_
    rintro e w2 ⟨rfl, e2⟩
    obtain rfl : w1 = w2 := e2.symm
    clear hmany
    go_wp2
    go_ret
    exact ⟨rfl, u1⟩
  by_cases hjm : (16777216 : Int) < (Q : Int)
  · rw [decide_eq_false hm] at hmany
    clear hm
    go_wp2_with fail
    refine hmany.mono ?_
    rintro e w2 ⟨rfl, e2⟩
    obtain rfl : w1 = w2 := e2.symm
    clear hmany
    go_wp2
    go_ret
    exact ⟨rfl, u1⟩
  rw [decide_eq_false hm] at hmany
  have hN20 : N ≤ 1048576 := by rw [← HL.out.2.1]; unfold Many at hm; omega
  have HT : Hid (totN L ≤ 16777216) := by show _ ≤ _; unfold Many at hm; omega
  clear hm
  have hni : (N : Int) ≤ 1048576 := by omega
  have hn0 : (0 : Int) ≤ (N : Int) := by omega
  clear hn
  go_wp2_with fail
  refine hmany.mono ?_
  rintro e w2 ⟨rfl, e2⟩
  obtain rfl : w1 = w2 := e2.symm
  clear hmany
  have hcp := copied_any _ L w1 (HL.out.1.up u1) (by rw [HL.out.2.1]; omega) HL.out.2.2.1
  go_wp2_with fail
  refine hcp.mono ?_
  rintro e w2 ⟨v2, vs2, rfl, r2, u2⟩
  clear hcp
  have U2 := u1.trans u2
  have hpk := Pack_any first v2 L w2 ad (HK.out.tb.up U2) (HK.out.gl.up U2) hf r2.recs.rw (by rw [HL.out.2.1]; omega)
  obtain ⟨a2, c2, rfl⟩ := r2.recs.slice
  rw [HL.out.2.1] at hpk ⊢
  clear r2 u2
  go_wp2_with fail
  refine hpk.mono ?_
  rintro e w3 ⟨v3, rfl, o3, u3⟩
  clear hpk
  have U3 := U2.trans u3
  have HU3 : Hid (Up w w3 ∧ w.heap.size ≤ w2.heap.size) := ⟨U3, U2.size⟩
  clear U2 u3 u1 U3
  obtain ⟨a3, c3, e3⟩ := o3.sl.slice
  by_cases hok : NumOk first L.length ∧ anyLong L = false
  · obtain ⟨gs, hp, hfit, hflat, hfull, hne, hgl⟩ := pk_parts hok.1 hok.2
    have hLne : L ≠ [] := by intro e; have := hok.1.1; rw [e] at this; simp at this
    have eE : pkE ad first L = .nilIface := by rw [pkE, if_neg hLne, if_pos hok.1, if_neg (by rw [hok.2]; simp)]
    have eR : pkR first L = pkB first gs := by rw [pkR, if_pos hok, hp]
    have hpl := pkB_length first gs hfit
    obtain ⟨G, hG⟩ : ∃ G, gs.length = G := ⟨_, rfl⟩
    rw [hG] at hpl hgl
    have hG0 : 0 < G := by
      rw [← hG]
      apply List.length_pos_iff.2
      rintro rfl
      exact hLne hflat.symm
    rw [eR, hpl] at e3
    rw [eR] at o3
    rw [eE]
    subst e3
    have hGi : (0 : Int) < (G : Int) := by omega
    have hGi2 : (G : Int) ≤ 1048576 := by have := HL.out.2.1; omega
    have hz : ((512 * (G : Int)) == 0) = false := by simp; omega
    have HP : Hid (Own w3 5 w2.heap.size (.slice a3 (512 * G) c3) (pkB first gs) ∧ Fits first gs ∧ gs.flatten = L ∧ gs.length = G ∧ (pkB first gs).length = 512 * G) := ⟨o3, hfit, hflat, hG, hpl⟩
    clear o3 hok hp hfit hflat hfull hne hgl hLne eE eR hpl hG hG0
    by_cases hneg : kk < 0
    · go_wp2
      go_ret
      exact ⟨rfl, HU3.out.1⟩
    · obtain ⟨k, rfl⟩ := Int.eq_ofNat_of_zero_le (show 0 ≤ kk by omega)
      by_cases hbig : (G : Int) ≤ (k : Int)
      · go_wp2
        go_ret
        exact ⟨rfl, HU3.out.1⟩
      · have hki : (k : Int) < (G : Int) := by omega
        have hkn : k < G := by omega
        have hk0 : (0 : Int) ≤ (k : Int) := by omega
        clear hneg hbig hk1 hk2
        -- what a scan of the first k blocks tells
        obtain ⟨ps, hps⟩ : ∃ ps, gs.take k = ps := ⟨_, rfl⟩
        obtain ⟨M, hM⟩ : ∃ M, ps.flatten = M := ⟨_, rfl⟩
        have hpsl : ps.length = k := by rw [← hps, List.length_take, HP.out.2.2.2.1]; omega
        have hpsf : Fits first ps := by rw [← hps]; exact HP.out.2.1.take k
        obtain ⟨ht1, ht2⟩ := pkB_take HP.out.2.1 k (by rw [HP.out.2.2.2.1]; omega)
        obtain ⟨hf1, hf2⟩ := flat_take HP.out.2.2.1 k
        rw [hps] at ht1 ht2 hf1 hf2
        have hcnt : cntB ps = M.length := by unfold cntB; rw [hM]
        rw [hM, hcnt] at hf1
        rw [hcnt, HL.out.2.1] at hf2
        rw [hcnt] at ht2
        have hppl : (pkB first ps).length = 512 * k := by rw [pkB_length _ _ hpsf, hpsl]
        obtain ⟨rest, hrest⟩ : ∃ rest, pkB (first + M.length) (gs.drop k) = rest := ⟨_, rfl⟩
        have hsplit : pkB first gs = pkB first ps ++ rest := by rw [← List.take_append_drop (512 * k) (pkB first gs), ht1, ht2, hrest]
        have hfm : first + M.length ≤ 4611686018427387905 := by
          have := (Fits.get (first := first) (gs := gs) k (by rw [HP.out.2.2.2.1]; exact hkn) HP.out.2.1).top
          rw [hps, hcnt] at this
          omega
        have HG : Hid (ps.flatten = M ∧ L.take M.length = M ∧ M.length ≤ N ∧ Fits first ps ∧ (pkB first ps).length = 512 * k ∧ (pkB first gs).take (512 * k) = pkB first ps ∧ (ps.flatten, ps.length) = (M, k) ∧ pkB first gs = pkB first ps ++ rest ∧ ps.length = k ∧ cntB ps = M.length) :=
          ⟨hM, hf1.symm, hf2, hpsf, hppl, ht1, by rw [hM, hpsl], hsplit, hpsl, hcnt⟩
        have HB : Hid (∀ r ∈ M, r.length ≤ 140737488355328) := fun r hr => HL.out.2.2.1 r (by rw [hf1] at hr; exact List.mem_of_mem_take hr)
        obtain ⟨m, hm⟩ : ∃ m, M.length = m := ⟨_, rfl⟩
        have HMl : Hid (M.length = m) := hm
        have hmN : m ≤ N := by rw [← hm]; exact hf2
        have hfmi : (first : Int) + (m : Int) ≤ 4611686018427387905 := by rw [← hm]; omega
        have hm0 : (0 : Int) ≤ (m : Int) := by omega
        have hmi : (m : Int) ≤ (N : Int) := by omega
        clear hps hM hpsl hpsf ht1 ht2 hf1 hf2 hcnt hppl hrest hsplit hfm hm
        obtain ⟨ac, cc, hsc, hcut⟩ := head_cut HP.out.1.sl (512 * k) (by rw [HP.out.2.2.2.2]; omega)
        rw [show ((512 * k : Nat) : Int) = 512 * (k : Int) from by omega] at hcut
        rw [HG.out.2.2.2.2.2.1] at hsc
        have Hsc : Hid (Sl w2.heap.size w3 (.slice ac (512 * k) cc) (pkB first ps)) := hsc
        clear hsc
        go_wp2_with (at_builtin; refine wpList_bytes_any _ rfl (.tmp 62) (.tmp 66) rfl w3.heap.size w2.heap.size _ _ [] (pkB first ps) rfl rfl (own_built w3 [] (by simp)) (Hsc.out.up (Up.alloc _ _)) (by simp) (by rw [HG.out.2.2.2.2.1]; simp; omega) ?_)
        intro v5 w5 o5 g5
        have u5 : Up w3 w5 := grown_up (Up.alloc w3 (.cells #[] 5)) g5 (fun x hx => by cases hx; exact Nat.le_refl _)
        have U5 := HU3.out.1.trans u5
        have hsc1 := Scan_any w3.heap.size _ (.slice none 0 0) _ [] first w5 ad (HK.out.tb.up U5) (HK.out.gl.up U5) o5.sl (SlI.nil _) (by rw [HG.out.2.2.2.2.1]; omega) (by simp) (by simp) hf
        have hst1 := scan_stop (badOf []) HG.out.2.2.2.1 (fun j _ => by rw [badOf_nil]) [] (.inr (.inl (by simp))) _ rfl
        rw [List.append_nil, HG.out.2.2.2.2.2.2.1] at hst1
        rw [hst1] at hsc1
        obtain ⟨a5, c5, rfl⟩ := o5.sl.slice
        rw [HG.out.2.2.2.2.1] at hsc1 ⊢
        clear hst1 g5 o5
        go_wp2_with fail
        refine hsc1.mono ?_
        rintro e w6 ⟨vC, vsC, rfl, rC, u6⟩
        clear hsc1
        have U6 := U5.trans u6
        have UP6 := u5.trans u6
        obtain ⟨aC, cC, hvC⟩ := rC.slice
        have HC : Hid (Rw w6 (.slice aC M.length cC) M) := by rw [← hvC]; exact rC.rw
        subst hvC
        rw [HMl.out]
        clear rC u5 u6 U5
        -- the whole, one sector bad
        have hp6 := HP.out.1.sl.up UP6
        go_wp2_with (at_builtin; refine wpList_bytes_any _ rfl (.tmp 73) (.tmp 74) rfl w6.heap.size w2.heap.size _ _ [] (pkB first gs) rfl rfl (own_built w6 [] (by simp)) (hp6.up (Up.alloc _ _)) (by simp) (by rw [HP.out.2.2.2.2]; simp; omega) ?_)
        intro v7 w7 o7 g7
        have u7 : Up w6 w7 := grown_up (Up.alloc w6 (.cells #[] 5)) g7 (fun x hx => by cases hx; exact Nat.le_refl _)
        have U7 := U6.trans u7
        have ui : Up w7 (w7.alloc (.cells #[.int .i64 (k : Int), .int .i64 (-1), .int .i64 (k : Int)] 3)) := Up.alloc _ _
        have U7i := U7.trans ui
        have hsc2 := Scan_any w6.heap.size _ _ _ _ first _ ad (HK.out.tb.up U7i) (HK.out.gl.up U7i) (o7.sl.up ui) (ints3 w7 (k : Int) (-1) (k : Int)) (by rw [HP.out.2.2.2.2]; omega) (by simp) (by intro z hz; simp at hz; omega) hf
        have hst2 := scan_stop (badOf [(k : Int), -1, (k : Int)]) HG.out.2.2.2.1 (fun j hj => by rw [HG.out.2.2.2.2.2.2.2.2.1] at hj; unfold badOf; apply decide_eq_false; simp; omega) rest (.inl (by rw [HG.out.2.2.2.2.2.2.2.2.1]; unfold badOf; apply decide_eq_true; simp)) _ rfl
        rw [← HG.out.2.2.2.2.2.2.2.1, HG.out.2.2.2.2.2.2.1] at hst2
        rw [hst2] at hsc2
        obtain ⟨a7, c7, rfl⟩ := o7.sl.slice
        rw [HP.out.2.2.2.2] at hsc2 ⊢
        have HU7 : Hid (Up w6 w7) := u7
        clear hst2 g7 o7 hp6 u7 U7
        go_wp2_with fail
        refine hsc2.mono ?_
        rintro e w8 ⟨vB, vsB, rfl, rB, u8⟩
        clear hsc2
        have U8 := U7i.trans u8
        have U68 : Up w6 w8 := HU7.out.trans (ui.trans u8)
        have hal1 := alike_any (.slice aC M.length cC) vB M M w8 (HC.out.up U68) rB.rw (by rw [HMl.out]; omega) (by rw [HMl.out]; omega) HB.out HB.out
        rw [decide_eq_true rfl] at hal1
        obtain ⟨aB, cB, rfl⟩ := rB.slice
        rw [HMl.out] at hal1 ⊢
        obtain ⟨vR, hRw, hcutR, _⟩ := rw_cut HL.out.1 0 m (Nat.zero_le _) (by rw [HL.out.2.1]; exact hmN)
        have hcutR := hcutR rfl
        rw [List.drop_zero, Nat.sub_zero] at hRw
        have hRw : Rw w vR M := by have := HG.out.2.1; rw [HMl.out] at this; rw [this] at hRw; exact hRw
        have HRw : Hid (Rw w vR M) := hRw
        obtain ⟨aR, cR, rfl⟩ := hRw.slice
        rw [HMl.out] at hcutR
        have HUi : Hid (Up w w8) := U8
        clear rB u8 ui U7i HU7 U8 hRw
        go_wp2_with fail
        refine hal1.mono ?_
        rintro e w9 ⟨rfl, hw9⟩
        have u9 := drew_up hw9
        clear hal1 hw9
        have hal2 := alike_any (.slice aC M.length cC) (.slice aR M.length cR) M M w9 (HC.out.up (U68.trans u9)) (HRw.out.up (HUi.out.trans u9)) (by rw [HMl.out]; omega) (by rw [HMl.out]; omega) HB.out HB.out
        rw [decide_eq_true rfl, HMl.out] at hal2
        go_wp2_with fail
        refine hal2.mono ?_
        rintro e w10 ⟨rfl, hw10⟩
        have u10 := drew_up hw10
        have U10 := HUi.out.trans (u9.trans u10)
        have U610 := U68.trans (u9.trans u10)
        clear hal2 hw10 u9 u10 U68 hcutR
        -- the first k blocks and the junk
        have hs10 := Hsc.out.up (UP6.trans U610)
        go_wp2_with (at_builtin; refine wpList_bytes_any _ rfl (.tmp 113) (.tmp 117) rfl w10.heap.size w2.heap.size _ _ [] (pkB first ps) rfl rfl (own_built w10 [] (by simp)) (hs10.up (Up.alloc _ _)) (by simp) (by rw [HG.out.2.2.2.2.1]; simp; omega) ?_)
        intro v11 w11 o11 g11
        have u11 : Up w10 w11 := grown_up (Up.alloc w10 (.cells #[] 5)) g11 (fun x hx => by cases hx; exact Nat.le_refl _)
        have U11 := U10.trans u11
        have HC11 : Hid (Rw w11 (.slice aC M.length cC) M) := HC.out.up (U610.trans u11)
        have o11' : Own w11 5 w.heap.size v11 (pkB first ps) := ownsRow_low o11 U10.size
        have hlo : ∀ x, v11.ownBlock = some x → w10.heap.size ≤ x := fun x hx => (World.ownsRow.lt o11 x hx).1
        obtain ⟨a11, c11, hv11⟩ := o11.sl.slice
        have HO : Hid (w10.heap.size = w10.heap.size) := rfl
        clear g11 o11 hs10 hcut
        go_wp2_with (at_builtin; refine wpList_bytes_any _ rfl (.tmp 119) (.tmp 120) rfl w.heap.size 0 v11 _ (pkB first ps) J rfl rfl o11' (HL.out.2.2.2.1.up U11) U11.size (by rw [HG.out.2.2.2.2.1, HL.out.2.2.2.2]; omega) ?_)
        intro v12 wQ o12 g12
        have UQ : Up w wQ := grown_up U11 g12 (fun x hx => Nat.le_trans U10.size (hlo x (by rw [hv11]; exact hx)))
        have UQ10 : Up w10 wQ := grown_up u11 g12 (fun x hx => hlo x (by rw [hv11]; exact hx))
        have HQ : Hid (Own wQ 5 w.heap.size v12 (pkB first ps ++ J) ∧ Up w wQ ∧ (pkB first ps ++ J).length = 512 * k + Q ∧ Rw wQ (.slice aC M.length cC) M) := ⟨o12, UQ, by rw [List.length_append, HG.out.2.2.2.2.1, HL.out.2.2.2.2], HC.out.up (U610.trans UQ10)⟩
        obtain ⟨a12, c12, hv12⟩ := o12.sl.slice
        rw [HQ.out.2.2.1] at hv12
        subst hv12
        clear g12 o12 o11' hlo UQ UQ10 U11 u11 U10 U610 HC11 HO UP6 U6 HUi HRw hv11
        by_cases hj512 : (Q : Int) < 512
        · have HJ : badOf [] ps.length = true ∨ J.length < 512 ∨ (∃ e, decB (J.take 512) = .error e) ∨ ∃ f rs, decB (J.take 512) = .ok (f, rs) ∧ f ≠ first + cntB ps := .inr (.inl (by rw [HL.out.2.2.2.2]; omega))
          have hsc3 := Scan_any w.heap.size _ (.slice none 0 0) _ [] first wQ ad (HK.out.tb.up HQ.out.2.1) (HK.out.gl.up HQ.out.2.1) HQ.out.1.sl (SlI.nil _) (by rw [HQ.out.2.2.1]; omega) (by simp) (by simp) hf
          have hst3 := scan_stop (badOf []) HG.out.2.2.2.1 (fun j _ => by rw [badOf_nil]) J HJ _ rfl
          rw [HG.out.2.2.2.2.2.2.1] at hst3
          rw [hst3] at hsc3
          clear hst3
          go_wp2_with fail
          refine hsc3.mono ?_
          rintro e wS ⟨vS, vsS, rfl, rS, uS⟩
          clear hsc3
          have US := HQ.out.2.1.trans uS
          have hal3 := alike_any vS (.slice aC M.length cC) M M wS rS.rw (HQ.out.2.2.2.up uS) (by rw [HMl.out]; omega) (by rw [HMl.out]; omega) HB.out HB.out
          rw [decide_eq_true rfl] at hal3
          obtain ⟨aS, cS, rfl⟩ := rS.slice
          rw [HMl.out] at hal3 ⊢
          clear rS uS
          go_wp2_with fail
          refine hal3.mono ?_
          rintro e wT ⟨rfl, hwT⟩
          have UT := US.trans (drew_up hwT)
          clear hal3 hwT US
          go_wp2
          go_ret
          exact ⟨rfl, UT⟩
        · have hj2 : (512 : Int) ≤ (Q : Int) := by omega
          obtain ⟨aq, cq, hsq, hcutq⟩ := head_cut (HL.out.2.2.2.1) 512 (by rw [HL.out.2.2.2.2]; omega)
          rw [show ((512 : Nat) : Int) = 512 from rfl] at hcutq
          have hsq2 := hsq.up HQ.out.2.1
          clear hj512 hsq
          go_wp2_with (at_builtin; refine wpList_bytes_any _ rfl (.tmp 131) (.tmp 133) rfl wQ.heap.size 0 _ _ [] (J.take 512) rfl rfl (own_built wQ [] (by simp)) (hsq2.up (Up.alloc _ _)) (by simp) (by rw [List.length_take]; simp; omega) ?_)
          intro v13 w13 o13 g13
          have u13 : Up wQ w13 := grown_up (Up.alloc wQ (.cells #[] 5)) g13 (fun x hx => by cases hx; exact Nat.le_refl _)
          have U13 := HQ.out.2.1.trans u13
          have hdec := Decode_any wQ.heap.size _ _ w13 ad (HK.out.tb.up U13) o13.sl (HK.out.gl.up U13)
          obtain ⟨a13, c13, rfl⟩ := o13.sl.slice
          have hl13 : (J.take 512).length = 512 := by rw [List.length_take, HL.out.2.2.2.2]; omega
          rw [hl13] at hdec ⊢
          clear hl13
          have HQ1 := HQ
          clear HQ g13 o13 hsq2 hcutq U13
          go_wp2_with fail
          refine hdec.mono ?_
          rintro e wR ⟨hT, u14⟩
          clear hdec
          have u14 := u13.trans u14
          have HQ : Hid (Own wR 5 w.heap.size (.slice a12 (512 * k + Q) c12) (pkB first ps ++ J) ∧ Up w wR ∧ (pkB first ps ++ J).length = 512 * k + Q ∧ Rw wR (.slice aC M.length cC) M) := ⟨ownsRow_up HQ1.out.1 u14, HQ1.out.2.1.trans u14, HQ1.out.2.2.1, HQ1.out.2.2.2.up u14⟩
          clear HQ1 u13 u14
          cases hd : decB (J.take 512) with
          | error er =>
            rw [hd] at hT
            have HJ : badOf [] ps.length = true ∨ J.length < 512 ∨ (∃ e, decB (J.take 512) = .error e) ∨ ∃ f rs, decB (J.take 512) = .ok (f, rs) ∧ f ≠ first + cntB ps := .inr (.inr (.inl ⟨er, hd⟩))
            clear hd
            cases er with
            | short =>
              obtain rfl := hT
              have hsc3 := Scan_any w.heap.size _ (.slice none 0 0) _ [] first wR ad (HK.out.tb.up HQ.out.2.1) (HK.out.gl.up HQ.out.2.1) HQ.out.1.sl (SlI.nil _) (by rw [HQ.out.2.2.1]; omega) (by simp) (by simp) hf
              have hst3 := scan_stop (badOf []) HG.out.2.2.2.1 (fun j _ => by rw [badOf_nil]) J HJ _ rfl
              rw [HG.out.2.2.2.2.2.2.1] at hst3
              rw [hst3] at hsc3
              clear hst3
              go_wp2_with fail
              refine hsc3.mono ?_
              rintro e wS ⟨vS, vsS, rfl, rS, uS⟩
              clear hsc3
              have US := HQ.out.2.1.trans uS
              have hal3 := alike_any vS (.slice aC M.length cC) M M wS rS.rw (HQ.out.2.2.2.up uS) (by rw [HMl.out]; omega) (by rw [HMl.out]; omega) HB.out HB.out
              rw [decide_eq_true rfl] at hal3
              obtain ⟨aS, cS, rfl⟩ := rS.slice
              rw [HMl.out] at hal3 ⊢
              clear rS uS
              go_wp2_with fail
              refine hal3.mono ?_
              rintro e wT ⟨rfl, hwT⟩
              have UT := US.trans (drew_up hwT)
              clear hal3 hwT US
              go_wp2
              go_ret
              exact ⟨rfl, UT⟩
            | form =>
              obtain rfl := hT
              have hsc3 := Scan_any w.heap.size _ (.slice none 0 0) _ [] first wR ad (HK.out.tb.up HQ.out.2.1) (HK.out.gl.up HQ.out.2.1) HQ.out.1.sl (SlI.nil _) (by rw [HQ.out.2.2.1]; omega) (by simp) (by simp) hf
              have hst3 := scan_stop (badOf []) HG.out.2.2.2.1 (fun j _ => by rw [badOf_nil]) J HJ _ rfl
              rw [HG.out.2.2.2.2.2.2.1] at hst3
              rw [hst3] at hsc3
              clear hst3
              go_wp2_with fail
              refine hsc3.mono ?_
              rintro e wS ⟨vS, vsS, rfl, rS, uS⟩
              clear hsc3
              have US := HQ.out.2.1.trans uS
              have hal3 := alike_any vS (.slice aC M.length cC) M M wS rS.rw (HQ.out.2.2.2.up uS) (by rw [HMl.out]; omega) (by rw [HMl.out]; omega) HB.out HB.out
              rw [decide_eq_true rfl] at hal3
              obtain ⟨aS, cS, rfl⟩ := rS.slice
              rw [HMl.out] at hal3 ⊢
              clear rS uS
              go_wp2_with fail
              refine hal3.mono ?_
              rintro e wT ⟨rfl, hwT⟩
              have UT := US.trans (drew_up hwT)
              clear hal3 hwT US
              go_wp2
              go_ret
              exact ⟨rfl, UT⟩
            | sum =>
              obtain rfl := hT
              have hsc3 := Scan_any w.heap.size _ (.slice none 0 0) _ [] first wR ad (HK.out.tb.up HQ.out.2.1) (HK.out.gl.up HQ.out.2.1) HQ.out.1.sl (SlI.nil _) (by rw [HQ.out.2.2.1]; omega) (by simp) (by simp) hf
              have hst3 := scan_stop (badOf []) HG.out.2.2.2.1 (fun j _ => by rw [badOf_nil]) J HJ _ rfl
              rw [HG.out.2.2.2.2.2.2.1] at hst3
              rw [hst3] at hsc3
              clear hst3
              go_wp2_with fail
              refine hsc3.mono ?_
              rintro e wS ⟨vS, vsS, rfl, rS, uS⟩
              clear hsc3
              have US := HQ.out.2.1.trans uS
              have hal3 := alike_any vS (.slice aC M.length cC) M M wS rS.rw (HQ.out.2.2.2.up uS) (by rw [HMl.out]; omega) (by rw [HMl.out]; omega) HB.out HB.out
              rw [decide_eq_true rfl] at hal3
              obtain ⟨aS, cS, rfl⟩ := rS.slice
              rw [HMl.out] at hal3 ⊢
              clear rS uS
              go_wp2_with fail
              refine hal3.mono ?_
              rintro e wT ⟨rfl, hwT⟩
              have UT := US.trans (drew_up hwT)
              clear hal3 hwT US
              go_wp2
              go_ret
              exact ⟨rfl, UT⟩
          | ok x =>
            obtain ⟨f, rs⟩ := x
            rw [hd] at hT
            obtain ⟨v15, vs15, rfl, r15⟩ := hT
            obtain ⟨a15, c15, rfl⟩ := r15.slice
            have hft := (decB_count hd).2.2
            by_cases hfd : f = first + m
            · have hfi : (f : Int) = (first : Int) + (m : Int) := by omega
              rw [hfi]
              have hup := HQ.out.2.1
              clear r15 hd hfd hft HQ
              go_wp2
              go_ret
              exact ⟨rfl, hup⟩
            · have hfi : ((f : Int) == (first : Int) + (m : Int)) = false := by simp only [beq_eq_false_iff_ne]; omega
              have HJ : badOf [] ps.length = true ∨ J.length < 512 ∨ (∃ e, decB (J.take 512) = .error e) ∨ ∃ f rs, decB (J.take 512) = .ok (f, rs) ∧ f ≠ first + cntB ps := .inr (.inr (.inr ⟨f, rs, hd, by rw [HG.out.2.2.2.2.2.2.2.2.2, HMl.out]; exact hfd⟩))
              clear r15 hd hfd hft
              have hsc3 := Scan_any w.heap.size _ (.slice none 0 0) _ [] first wR ad (HK.out.tb.up HQ.out.2.1) (HK.out.gl.up HQ.out.2.1) HQ.out.1.sl (SlI.nil _) (by rw [HQ.out.2.2.1]; omega) (by simp) (by simp) hf
              have hst3 := scan_stop (badOf []) HG.out.2.2.2.1 (fun j _ => by rw [badOf_nil]) J HJ _ rfl
              rw [HG.out.2.2.2.2.2.2.1] at hst3
              rw [hst3] at hsc3
              clear hst3
              go_wp2_with fail
              refine hsc3.mono ?_
              rintro e wS ⟨vS, vsS, rfl, rS, uS⟩
              clear hsc3
              have US := HQ.out.2.1.trans uS
              have hal3 := alike_any vS (.slice aC M.length cC) M M wS rS.rw (HQ.out.2.2.2.up uS) (by rw [HMl.out]; omega) (by rw [HMl.out]; omega) HB.out HB.out
              rw [decide_eq_true rfl] at hal3
              obtain ⟨aS, cS, rfl⟩ := rS.slice
              rw [HMl.out] at hal3 ⊢
              clear rS uS
              go_wp2_with fail
              refine hal3.mono ?_
              rintro e wT ⟨rfl, hwT⟩
              have UT := US.trans (drew_up hwT)
              clear hal3 hwT US
              go_wp2
              go_ret
              exact ⟨rfl, UT⟩
  · have eR : pkR first L = [] := by rw [pkR, if_neg hok]
    rw [eR] at e3
    have e3 : v3 = .slice a3 0 c3 := e3
    subst e3
    clear o3 eR
    by_cases h0 : L = []
    · have eE : pkE ad first L = .nilIface := by rw [pkE, if_pos h0]
      rw [eE]
      clear eE h0 hok
      go_wp2
      go_ret
      exact ⟨rfl, HU3.out.1⟩
    · obtain ⟨x, hx⟩ : ∃ x, pkE ad first L = E x := by
        unfold pkE
        rw [if_neg h0]
        split
        · split
          · exact ⟨_, rfl⟩
          · rename_i h1 h2
            exact absurd ⟨h1, by simpa using h2⟩ hok
        · exact ⟨_, rfl⟩
      rw [hx]
      clear hx h0 hok
      go_wp2
      go_ret
      exact ⟨rfl, HU3.out.1⟩
end Go.Proofs.YtoljalolfdnghaaDoor
