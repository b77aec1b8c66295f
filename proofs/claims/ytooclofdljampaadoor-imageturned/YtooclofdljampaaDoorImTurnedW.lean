/- image: ImageTurned (laid by genTurned.py). Own work. -/
import Derived.Test.YtooclofdljampaaDoorImUnlike
import Derived.Laws.BitsAllLaws
set_option linter.unusedVariables false
set_option linter.unusedSimpArgs false
namespace Go.Proofs.YtooclofdljampaaDoor
open Go Go.RowKit

theorem xor_byteI (c d : UInt8) : bits .xor .u8 (c.toNat : Int) (d.toNat : Int) = ((c ^^^ d).toNat : Int) := by
  have := u8_xor_nat c.toNat d.toNat c.toNat_lt d.toNat_lt
  rw [this, UInt8.toNat_xor]
theorem xor_otherI (c d : UInt8) (h : d ≠ 0) : c ^^^ d ≠ c := by
  intro e
  apply h
  have : c ^^^ (c ^^^ d) = c ^^^ c := by rw [e]
  rwa [← UInt8.xor_assoc, UInt8.xor_self, UInt8.zero_xor] at this
theorem own_parts {w : World} {base : Nat} {v : Value} {bs : List UInt8} (h : Own w 5 base v bs) (hn : bs ≠ []) : ∃ g cap, v = .slice (some ⟨g, 0, none⟩) bs.length cap ∧ base ≤ g ∧ At w g 0 bs := by
  obtain ⟨hl, ⟨rfl, h0⟩ | ⟨g, cap, cur, rfl, hb, hg, hnc, hcm, hcs, ht⟩⟩ := h
  · exact absurd (List.eq_nil_of_length_eq_zero h0) hn
  · refine ⟨g, cap, rfl, hb, fun i hi => ?_⟩
    rw [cell_of_row w g _ cur _ (0, 0) hg]
    have : (Bv bs)[i]? = some (B bs[i]) := by simp [hi]
    rw [← ht, List.getElem?_take] at this
    split at this
    · simpa using this
    · cases this
theorem own_setI {w : World} {base g n cap : Nat} {bs : List UInt8} (h : Own w 5 base (.slice (some ⟨g, 0, none⟩) n cap) bs) (k : Nat) (hk : k < bs.length) (c : UInt8) :
    Own (w.setCell ⟨g, k, none⟩ (B c)) 5 base (.slice (some ⟨g, 0, none⟩) n cap) (bs.set k c) := by
  obtain ⟨hl, ⟨hv, hn⟩ | ⟨g', cap', cur, hv, hb, hg, hnc, hcm, hcs, ht⟩⟩ := h
  · cases hv
  · cases hv
    refine ⟨by simp, .inr ⟨g, cap, cur.setIfInBounds k (B c), by simp, hb, ?_, by simpa using hnc, hcm, by simpa using hcs, ?_⟩⟩
    · exact heap_setCell_same _ _ _ _ _ _ hg
    · rw [Array.toList_setIfInBounds, List.length_set, List.take_set, ht]
      exact (List.map_set ..).symm
theorem own_frozen {w : World} {base g n cap t : Nat} {bs : List UInt8} (h : Own w 5 base (.slice (some ⟨g, 0, none⟩) n cap) bs) : w.frozen? ⟨g, t, none⟩ = false := by
  obtain ⟨hl, ⟨hv, _⟩ | ⟨g', cap', cur, hv, hb, hg, _⟩⟩ := h
  · cases hv
  · cases hv
    simp [World.frozen?, hg]

set_option maxRecDepth 20000 in
set_option maxHeartbeats 12800000 in
theorem ImageTurned_any (v : Value) (l f : Nat) (xs : List Ent) (at_ : Int) (xb : Nat) (kk : Int) (w : World) (ad : Nat → Addr) (hk : IKn w ad) (h : SlE w v xs) (hl : xs.length ≤ 1759218604390) (h64 : St64 ⟨l, f, xs⟩)
    (ha : -9223372036854775808 ≤ at_ ∧ at_ ≤ 9223372036854775807) (hx : xb < 256) (hkk : -9223372036854775808 ≤ kk ∧ kk ≤ 9223372036854775807) :
    Calls Tryd.prog 6 #[.agg #[V l, V f, v], .int .i64 at_, .int .u8 (xb : Int), .int .i64 kk] w fun e w' => e = .returned (.bool true) ∧ Up w w' := by
  have HK : Hid (IKn w ad) := hk
  have HS : Hid (SlE w v xs ∧ xs.length ≤ 1759218604390 ∧ St64 ⟨l, f, xs⟩) := ⟨h, hl, h64⟩
  obtain ⟨ao, cap, rfl⟩ := h.shape
  obtain ⟨N, hN⟩ : ∃ N, xs.length = N := ⟨_, rfl⟩
  rw [hN] at HS ⊢
  have HN : Hid (xs.length = N) := hN
  have HB : Hid ((-9223372036854775808 ≤ at_ ∧ at_ ≤ 9223372036854775807) ∧ xb < 256 ∧ (-9223372036854775808 ≤ kk ∧ kk ≤ 9223372036854775807)) := ⟨ha, hx, hkk⟩
  have b0 : Box (w.alloc (.cells #[V l, V f, .slice ao N cap] 29)) w.heap.size #[V l, V f, .slice ao N cap] := Box.new _ _ _
  have u0 : Up w (w.alloc (.cells #[V l, V f, .slice ao N cap] 29)) := Up.alloc _ _
  clear hk h hl h64 hN ha hx hkk
  go_enter Tryd.func6, Tryd.ntmps6
  go_upto_region 1 with fail
  generalize w.alloc (.cells #[V l, V f, .slice ao N cap] 29) = w0 at *
  generalize w.heap.size = B0 at *
  go_wp2_with fail
  refine (awake_any w0 ad (HK.out.up u0)).mono ?_
  rintro e w1 ⟨rfl, u1⟩
  replace u0 := u0.trans u1
  replace b0 := b0.up u1
  clear u1
  obtain ⟨c0, c1, c2⟩ := b0.c3
  go_wp2_with fail
  refine (wide_any _ l f xs _ (HS.out.1.up u0) (by rw [HN.out]; exact HS.out.2.1)).mono ?_
  rintro e w2 ⟨⟨q, rfl⟩, u1⟩
  replace u0 := u0.trans u1
  replace b0 := b0.up u1
  clear u1 c0 c1 c2
  obtain ⟨c0, c1, c2⟩ := b0.c3
  cases q with
  | true =>
    go_wp2
    go_ret
    exact ⟨rfl, u0⟩
  | false =>
    go_wp2_with fail
    refine (copied_any _ l f xs _ (HS.out.1.up u0) (by rw [HN.out]; exact HS.out.2.1)).mono ?_
    rintro e w3 ⟨v3, rfl, o3, u1⟩
    replace u0 := u0.trans u1
    clear u1 c0 c1 c2 b0
    cases hok : okS ⟨l, f, xs⟩ with
    | false =>
      have hE := Encode_no v3 l f xs w3 (ad 0) (HK.out.up u0).gA o3.sl (by have := HN.out; have := HS.out.2.1; omega) hok
      obtain ⟨a3, n3, k3, rfl⟩ : ∃ a n c, v3 = .slice a n c := by obtain ⟨a, c, e⟩ := o3.shape; exact ⟨_, _, _, e⟩
      clear hok o3
      go_wp2_with fail
      refine hE.mono ?_
      rintro e w4 ⟨rfl, u1⟩
      replace u0 := u0.trans u1
      have ge := (HK.out.up u0).gA.cell
      have hq := fun u => eq_same (ad 0) u
      clear u1 hE
      go_wp2
      go_ret
      exact ⟨rfl, u0⟩
    | true =>
      have hE := Encode_ok v3 l f xs w3 o3.sl (HK.out.up u0).tb HS.out.2.2 hok
      obtain ⟨IMG, hI⟩ : ∃ IMG, imgB ⟨l, f, xs⟩ = IMG := ⟨_, rfl⟩
      have HL : Hid (28 ≤ IMG.length ∧ IMG.length ≤ 500000) := by
        rw [← hI]; exact ⟨by rw [imgB_length]; omega, imgB_small hok⟩
      have HC : Hid (∀ k, k < IMG.length → (∃ e, decI (IMG.take k) = .error e) ∧ (k < 28 → decI (IMG.take k) = .error .short)) := by
        rw [← hI]; exact fun k hk => cut_short hok HS.out.2.2 hk
      have HT : Hid (∀ i c, i < IMG.length → IMG[i]? ≠ some c → (i < 4 → decI (IMG.set i c) = .error .form) ∧ (4 ≤ i → decI (IMG.set i c) = .error .sum)) := by
        rw [← hI]; exact fun i c hi hc => ⟨fun h4 => turned_front h4 hc, fun h4 => turned_back h4 hi hc⟩
      rw [hI] at hE
      obtain ⟨a3, n3, k3, rfl⟩ : ∃ a n c, v3 = .slice a n c := by obtain ⟨a, c, e⟩ := o3.shape; exact ⟨_, _, _, e⟩
      clear hok o3 hI
      go_wp2_with fail
      refine hE.mono ?_
      rintro e w4 ⟨v4, rfl, o4, u1⟩
      replace u0 := u0.trans u1
      have HW4 : Hid (w.heap.size ≤ w4.heap.size) := u0.size
      obtain ⟨g4, c4, rfl, _, hat4⟩ := own_parts o4 (by rintro rfl; have := HL.out.1; simp at this)
      have HG4 : Hid (g4 < w4.heap.size) := hat4.lt (by rintro rfl; have := HL.out.1; simp at this)
      have s4 := own_z o4
      obtain ⟨L, hL⟩ : ∃ L, IMG.length = L := ⟨_, rfl⟩
      have HLL : Hid (IMG.length = L) := hL
      rw [hL] at s4 ⊢
      have hL1 : (28 : Int) ≤ (L : Int) ∧ (L : Int) ≤ 500000 := by have := HL.out; omega
      clear u1 hE o4 hL hat4
      by_cases hneg : at_ < 0
      · have hn1 : ¬ (0 : Int) ≤ at_ := by omega
        have hn2 : decide ((0 : Int) ≤ at_) = false := decide_eq_false hn1
        have HU : Hid (Up w _) := u0
        have HZ : Hid (Sl 0 _ (.slice (some ⟨g4, 0, none⟩) L c4) IMG) := s4
        clear u0 s4
        by_cases hk0 : kk < 0
        · have gk : decide (kk < 0) = true := decide_eq_true hk0
          go_wp2
          go_ret
          exact ⟨rfl, HU.out⟩
        · obtain ⟨k, rfl⟩ := Int.eq_ofNat_of_zero_le (show 0 ≤ kk by omega)
          have gk : decide ((k : Int) < 0) = false := decide_eq_false hk0
          by_cases hkL : (L : Int) ≤ (k : Int)
          · have gl : decide ((L : Int) ≤ (k : Int)) = true := decide_eq_true hkL
            go_wp2
            go_ret
            exact ⟨rfl, HU.out⟩
          · have gl : decide ((L : Int) ≤ (k : Int)) = false := decide_eq_false hkL
            have hkl : k < IMG.length := by have := HLL.out; omega
            obtain ⟨vc, sc, _, rc, _⟩ := sl_cut HZ.out 0 k (by omega) (by omega)
            replace rc := rc rfl
            rw [List.drop_zero, Nat.sub_zero] at sc
            have hcl : (IMG.take k).length ≤ 500000 := by have := HL.out; rw [List.length_take]; omega
            have HCk : Hid ((∃ e, decI (IMG.take k) = .error e) ∧ (k < 28 → decI (IMG.take k) = .error .short)) := HC.out k hkl
            generalize IMG.take k = CUT at sc hcl HCk
            have HCL : Hid (CUT.length ≤ 500000) := hcl
            obtain ⟨ac, nc, cc, rfl⟩ : ∃ a n c, vc = .slice a n c := by obtain ⟨ao, c, e, _⟩ := sc; exact ⟨_, _, _, e⟩
            clear hkl hcl
            go_wp2_with (at_builtin; refine wpList_bytesR_any _ rfl (.tmp 95) (.tmp 98) rfl (World.heap _).size 0 _ _ [] CUT rfl rfl (own_none _) (sc.up (Up.alloc _ _)) (by simp) ?hl ?_)
            case hl => have := HCL.out; simp only [List.length_nil]; omega
            intro v9 w9 o9 g9
            have U9 : Up w w9 := grownR_up (HU.out.trans (Up.alloc _ (.cells #[] 5))) (own_none _) HU.out.size g9
            replace o9 := own_z o9
            have hdec := (HK.out.up U9).dec o9 (by have := HCL.out; omega)
            obtain ⟨a9, n9, c9, rfl⟩ : ∃ a n c, v9 = .slice a n c := by obtain ⟨ao, c, e, _⟩ := o9; exact ⟨_, _, _, e⟩
            clear g9 o9 rc sc
            obtain ⟨er, her⟩ := HCk.out.1
            rw [her] at hdec
            have HER : Hid (k < 28 → er = .short) := fun hk => by have := HCk.out.2 hk; rw [her] at this; exact (Except.error.inj this)
            clear her
            go_wp2_with fail
            refine hdec.mono ?_
            rintro e wa ⟨hEE, ua⟩
            obtain rfl := hEE.err
            have Ua := U9.trans ua
            have ub : Up wa (wa.alloc (.cells #[V 0, V 0, .slice none 0 0] 29)) := Up.alloc _ _
            have Nb : Box (wa.alloc (.cells #[V 0, V 0, .slice none 0 0] 29)) wa.heap.size #[V 0, V 0, .slice none 0 0] := Box.new _ _ _
            obtain ⟨m0, m1, m2⟩ := Nb.c3
            have hzz := empty_zero (wa.alloc (.cells #[V 0, V 0, .slice none 0 0] 29))
            clear hdec hEE Nb ua
            go_wp2_with fail
            refine hzz.mono ?_
            rintro e wb ⟨rfl, uc⟩
            have Uc := (Ua.trans ub).trans uc
            clear hzz m0 m1 m2
            by_cases h28 : (28 : Int) ≤ (k : Int)
            · have g28 : decide ((28 : Int) ≤ (k : Int)) = true := decide_eq_true h28
              go_wp2
              go_ret
              exact ⟨rfl, Uc⟩
            · have g28 : decide ((28 : Int) ≤ (k : Int)) = false := decide_eq_false h28
              obtain rfl := HER.out (by omega)
              have cS := (HK.out.up Uc).gS.cell
              have eS := fun u => eq_same (ad 1) u
              simp only [gIm]
              go_wp2
              go_ret
              exact ⟨rfl, Uc⟩
      · obtain ⟨t, rfl⟩ := Int.eq_ofNat_of_zero_le (show 0 ≤ at_ by omega)
        have hn2 : decide ((0 : Int) ≤ (t : Int)) = true := decide_eq_true (by omega)
        by_cases hbig : (L : Int) ≤ (t : Int)
        · have hb2 : ¬ (t : Int) < (L : Int) := by omega
          have hb3 : decide ((t : Int) < (L : Int)) = false := decide_eq_false hb2
          have HU : Hid (Up w _) := u0
          have HZ : Hid (Sl 0 _ (.slice (some ⟨g4, 0, none⟩) L c4) IMG) := s4
          clear u0 s4
          by_cases hk0 : kk < 0
          · have gk : decide (kk < 0) = true := decide_eq_true hk0
            go_wp2
            go_ret
            exact ⟨rfl, HU.out⟩
          · obtain ⟨k, rfl⟩ := Int.eq_ofNat_of_zero_le (show 0 ≤ kk by omega)
            have gk : decide ((k : Int) < 0) = false := decide_eq_false hk0
            by_cases hkL : (L : Int) ≤ (k : Int)
            · have gl : decide ((L : Int) ≤ (k : Int)) = true := decide_eq_true hkL
              go_wp2
              go_ret
              exact ⟨rfl, HU.out⟩
            · have gl : decide ((L : Int) ≤ (k : Int)) = false := decide_eq_false hkL
              have hkl : k < IMG.length := by have := HLL.out; omega
              obtain ⟨vc, sc, _, rc, _⟩ := sl_cut HZ.out 0 k (by omega) (by omega)
              replace rc := rc rfl
              rw [List.drop_zero, Nat.sub_zero] at sc
              have hcl : (IMG.take k).length ≤ 500000 := by have := HL.out; rw [List.length_take]; omega
              have HCk : Hid ((∃ e, decI (IMG.take k) = .error e) ∧ (k < 28 → decI (IMG.take k) = .error .short)) := HC.out k hkl
              generalize IMG.take k = CUT at sc hcl HCk
              have HCL : Hid (CUT.length ≤ 500000) := hcl
              obtain ⟨ac, nc, cc, rfl⟩ : ∃ a n c, vc = .slice a n c := by obtain ⟨ao, c, e, _⟩ := sc; exact ⟨_, _, _, e⟩
              clear hkl hcl
              go_wp2_with (at_builtin; refine wpList_bytesR_any _ rfl (.tmp 95) (.tmp 98) rfl (World.heap _).size 0 _ _ [] CUT rfl rfl (own_none _) (sc.up (Up.alloc _ _)) (by simp) ?hl ?_)
              case hl => have := HCL.out; simp only [List.length_nil]; omega
              intro v9 w9 o9 g9
              have U9 : Up w w9 := grownR_up (HU.out.trans (Up.alloc _ (.cells #[] 5))) (own_none _) HU.out.size g9
              replace o9 := own_z o9
              have hdec := (HK.out.up U9).dec o9 (by have := HCL.out; omega)
              obtain ⟨a9, n9, c9, rfl⟩ : ∃ a n c, v9 = .slice a n c := by obtain ⟨ao, c, e, _⟩ := o9; exact ⟨_, _, _, e⟩
              clear g9 o9 rc sc
              obtain ⟨er, her⟩ := HCk.out.1
              rw [her] at hdec
              have HER : Hid (k < 28 → er = .short) := fun hk => by have := HCk.out.2 hk; rw [her] at this; exact (Except.error.inj this)
              clear her
              go_wp2_with fail
              refine hdec.mono ?_
              rintro e wa ⟨hEE, ua⟩
              obtain rfl := hEE.err
              have Ua := U9.trans ua
              have ub : Up wa (wa.alloc (.cells #[V 0, V 0, .slice none 0 0] 29)) := Up.alloc _ _
              have Nb : Box (wa.alloc (.cells #[V 0, V 0, .slice none 0 0] 29)) wa.heap.size #[V 0, V 0, .slice none 0 0] := Box.new _ _ _
              obtain ⟨m0, m1, m2⟩ := Nb.c3
              have hzz := empty_zero (wa.alloc (.cells #[V 0, V 0, .slice none 0 0] 29))
              clear hdec hEE Nb ua
              go_wp2_with fail
              refine hzz.mono ?_
              rintro e wb ⟨rfl, uc⟩
              have Uc := (Ua.trans ub).trans uc
              clear hzz m0 m1 m2
              by_cases h28 : (28 : Int) ≤ (k : Int)
              · have g28 : decide ((28 : Int) ≤ (k : Int)) = true := decide_eq_true h28
                go_wp2
                go_ret
                exact ⟨rfl, Uc⟩
              · have g28 : decide ((28 : Int) ≤ (k : Int)) = false := decide_eq_false h28
                obtain rfl := HER.out (by omega)
                have cS := (HK.out.up Uc).gS.cell
                have eS := fun u => eq_same (ad 1) u
                simp only [gIm]
                go_wp2
                go_ret
                exact ⟨rfl, Uc⟩
        · have hb2 : (t : Int) < (L : Int) := by omega
          have hb3 : decide ((t : Int) < (L : Int)) = true := decide_eq_true hb2
          by_cases hx0 : xb = 0
          · subst hx0
            have HU : Hid (Up w _) := u0
            have HZ : Hid (Sl 0 _ (.slice (some ⟨g4, 0, none⟩) L c4) IMG) := s4
            clear u0 s4
            by_cases hk0 : kk < 0
            · have gk : decide (kk < 0) = true := decide_eq_true hk0
              go_wp2
              go_ret
              exact ⟨rfl, HU.out⟩
            · obtain ⟨k, rfl⟩ := Int.eq_ofNat_of_zero_le (show 0 ≤ kk by omega)
              have gk : decide ((k : Int) < 0) = false := decide_eq_false hk0
              by_cases hkL : (L : Int) ≤ (k : Int)
              · have gl : decide ((L : Int) ≤ (k : Int)) = true := decide_eq_true hkL
                go_wp2
                go_ret
                exact ⟨rfl, HU.out⟩
              · have gl : decide ((L : Int) ≤ (k : Int)) = false := decide_eq_false hkL
                have hkl : k < IMG.length := by have := HLL.out; omega
                obtain ⟨vc, sc, _, rc, _⟩ := sl_cut HZ.out 0 k (by omega) (by omega)
                replace rc := rc rfl
                rw [List.drop_zero, Nat.sub_zero] at sc
                have hcl : (IMG.take k).length ≤ 500000 := by have := HL.out; rw [List.length_take]; omega
                have HCk : Hid ((∃ e, decI (IMG.take k) = .error e) ∧ (k < 28 → decI (IMG.take k) = .error .short)) := HC.out k hkl
                generalize IMG.take k = CUT at sc hcl HCk
                have HCL : Hid (CUT.length ≤ 500000) := hcl
                obtain ⟨ac, nc, cc, rfl⟩ : ∃ a n c, vc = .slice a n c := by obtain ⟨ao, c, e, _⟩ := sc; exact ⟨_, _, _, e⟩
                clear hkl hcl
                go_wp2_with (at_builtin; refine wpList_bytesR_any _ rfl (.tmp 95) (.tmp 98) rfl (World.heap _).size 0 _ _ [] CUT rfl rfl (own_none _) (sc.up (Up.alloc _ _)) (by simp) ?hl ?_)
                case hl => have := HCL.out; simp only [List.length_nil]; omega
                intro v9 w9 o9 g9
                have U9 : Up w w9 := grownR_up (HU.out.trans (Up.alloc _ (.cells #[] 5))) (own_none _) HU.out.size g9
                replace o9 := own_z o9
                have hdec := (HK.out.up U9).dec o9 (by have := HCL.out; omega)
                obtain ⟨a9, n9, c9, rfl⟩ : ∃ a n c, v9 = .slice a n c := by obtain ⟨ao, c, e, _⟩ := o9; exact ⟨_, _, _, e⟩
                clear g9 o9 rc sc
                obtain ⟨er, her⟩ := HCk.out.1
                rw [her] at hdec
                have HER : Hid (k < 28 → er = .short) := fun hk => by have := HCk.out.2 hk; rw [her] at this; exact (Except.error.inj this)
                clear her
                go_wp2_with fail
                refine hdec.mono ?_
                rintro e wa ⟨hEE, ua⟩
                obtain rfl := hEE.err
                have Ua := U9.trans ua
                have ub : Up wa (wa.alloc (.cells #[V 0, V 0, .slice none 0 0] 29)) := Up.alloc _ _
                have Nb : Box (wa.alloc (.cells #[V 0, V 0, .slice none 0 0] 29)) wa.heap.size #[V 0, V 0, .slice none 0 0] := Box.new _ _ _
                obtain ⟨m0, m1, m2⟩ := Nb.c3
                have hzz := empty_zero (wa.alloc (.cells #[V 0, V 0, .slice none 0 0] 29))
                clear hdec hEE Nb ua
                go_wp2_with fail
                refine hzz.mono ?_
                rintro e wb ⟨rfl, uc⟩
                have Uc := (Ua.trans ub).trans uc
                clear hzz m0 m1 m2
                by_cases h28 : (28 : Int) ≤ (k : Int)
                · have g28 : decide ((28 : Int) ≤ (k : Int)) = true := decide_eq_true h28
                  go_wp2
                  go_ret
                  exact ⟨rfl, Uc⟩
                · have g28 : decide ((28 : Int) ≤ (k : Int)) = false := decide_eq_false h28
                  obtain rfl := HER.out (by omega)
                  have cS := (HK.out.up Uc).gS.cell
                  have eS := fun u => eq_same (ad 1) u
                  simp only [gIm]
                  go_wp2
                  go_ret
                  exact ⟨rfl, Uc⟩
          · have hxz : ((xb : Int) != 0) = true := by simp; omega
            have hxz2 : ¬ (xb : Int) = 0 := by omega
            obtain ⟨X, hX, hXne⟩ : ∃ X : UInt8, (X.toNat : Int) = (xb : Int) ∧ X ≠ 0 := by
              have := HB.out.2.1
              refine ⟨UInt8.ofNat xb, by rw [UInt8.toNat_ofNat']; omega, fun h => hx0 ?_⟩
              have := congrArg UInt8.toNat h
              rw [UInt8.toNat_ofNat'] at this
              simp at this
              omega
            have Htn : Hid (t < L) := by show t < L; omega
            rw [← hX] at hxz hxz2 ⊢
            clear hX hx0 HB
            have hbz : w4.heap.size ≤ (w4.alloc (.cells #[] 5)).heap.size := by simp
            go_wp2_with (at_builtin; refine wpList_bytesR_any _ rfl (.tmp 48) (.tmp 49) rfl w4.heap.size 0 _ _ [] IMG rfl rfl (own_none w4) (s4.up (Up.alloc _ _)) hbz ?hl ?_)
            case hl => have := HL.out; simp only [List.length_nil]; omega
            intro v5 w5 o5 g5
            replace o5 : Own w5 5 w4.heap.size v5 IMG := o5
            have u5 : Up w4 w5 := grownR_up (Up.alloc w4 (.cells #[] 5)) (own_none w4) (Nat.le_refl _) g5
            have s5 := s4.up u5
            replace u0 := u0.trans u5
            obtain ⟨g, cg, rfl, hg, hat⟩ := own_parts o5 (by rintro rfl; have := HL.out.1; simp at this)
            have hz4 : w4.heap.size ≤ g := hg
            rw [HLL.out] at o5 ⊢
            have htl : t < IMG.length := by have := HLL.out; have := Htn.out; omega
            have hcell := hat t htl
            rw [Nat.zero_add] at hcell
            have hfz := own_frozen (t := t) o5
            have hset := own_setI o5 t htl (IMG[t]'htl ^^^ X)
            have hxor := xor_byteI (IMG[t]'htl) X
            have hturn := HT.out t (IMG[t]'htl ^^^ X) htl (by rw [List.getElem?_eq_getElem htl]; intro h; exact xor_otherI _ _ hXne (Option.some.inj h).symm)
            have hsl : (IMG.set t (IMG[t]'htl ^^^ X)).length = L := by rw [List.length_set]; exact HLL.out
            obtain ⟨D, hD⟩ : ∃ D, IMG.set t (IMG[t]'htl ^^^ X) = D := ⟨_, rfl⟩
            rw [hD] at hset hturn hsl
            obtain ⟨Y, hY⟩ : ∃ Y, IMG[t]'htl ^^^ X = Y := ⟨_, rfl⟩
            rw [hY] at hset hxor
            obtain ⟨C, hC⟩ : ∃ C, IMG[t]'htl = C := ⟨_, rfl⟩
            rw [hC] at hcell hxor
            have U6 : Up w (w5.setCell ⟨g, t, none⟩ (B Y)) := Below.setCell u0 (Nat.le_trans (show w.heap.size ≤ w4.heap.size from Nat.le_trans HW4.out (Nat.le_refl _)) hz4) _
            have S6 : Hid (Sl 0 (w5.setCell ⟨g, t, none⟩ (B Y)) (.slice (some ⟨g4, 0, none⟩) L c4) IMG) := by
              refine Touch.sl s5 (S := [g]) (Touch.setCell (Touch.refl w5 [g]) (k := g) (.inl (by simp)) t (B Y)) (fun hne j hj => ?_)
              simp only [Value.ownBlock, Option.some.injEq] at hj
              subst hj
              simp only [List.mem_singleton]
              have := HG4.out
              omega
            have H6 : Hid (Sl 0 (w5.setCell ⟨g, t, none⟩ (B Y)) (.slice (some ⟨g, 0, none⟩) L cg) D ∧ D.length = L ∧ (t < 4 → decI D = .error .form) ∧ (4 ≤ t → decI D = .error .sum)) := ⟨own_z hset, hsl, hturn⟩
            clear hset hturn hsl hD hY hC hat htl o5 g5 s5 s4 u5 u0 hz4 hg hbz
            have hdec := (HK.out.up U6).dec H6.out.1 (by have := H6.out.2.1; have := HLL.out; have := HL.out; omega)
            go_wp2_with fail
            refine hdec.mono ?_
            rintro e w6 ⟨hE, u6⟩
            replace U6 := U6.trans u6
            have S7 := S6.out.up u6
            clear hdec hcell hfz hxor S6 u6
            have u7 : Up w6 (w6.alloc (.cells #[V 0, V 0, .slice none 0 0] 29)) := Up.alloc _ _
            have N7 : Box (w6.alloc (.cells #[V 0, V 0, .slice none 0 0] 29)) w6.heap.size #[V 0, V 0, .slice none 0 0] := Box.new _ _ _
            obtain ⟨d0, d1, d2⟩ := N7.c3
            have hz := empty_zero (w6.alloc (.cells #[V 0, V 0, .slice none 0 0] 29))
            have S8 := S7.up u7
            have U7 := U6.trans u7
            clear S7 U6 u7 N7
            by_cases h4 : (t : Int) < 4
            · have h4' : ¬ (4 : Int) ≤ (t : Int) := by omega
              have g41 : decide ((t : Int) < 4) = true := decide_eq_true h4
              have g42 : decide ((4 : Int) ≤ (t : Int)) = false := decide_eq_false h4'
              rw [H6.out.2.2.1 (by omega)] at hE
              obtain rfl := hE.err
              simp only [gIm]
              clear hE
              go_wp2_with fail
              refine hz.mono ?_
              rintro e w8 ⟨rfl, u8⟩
              have u0 := U7.trans u8
              have s4 := S8.up u8
              have cF := (HK.out.up u0).gF.cell
              have cU := (HK.out.up u0).gU.cell
              have es := fun u => neq_same (ad 2) u
              clear hz d0 d1 d2 U7 S8 u8 H6
              have HU : Hid (Up w _) := u0
              have HZ : Hid (Sl 0 _ (.slice (some ⟨g4, 0, none⟩) L c4) IMG) := s4
              clear u0 s4
              by_cases hk0 : kk < 0
              · have gk : decide (kk < 0) = true := decide_eq_true hk0
                go_wp2
                go_ret
                exact ⟨rfl, HU.out⟩
              · obtain ⟨k, rfl⟩ := Int.eq_ofNat_of_zero_le (show 0 ≤ kk by omega)
                have gk : decide ((k : Int) < 0) = false := decide_eq_false hk0
                by_cases hkL : (L : Int) ≤ (k : Int)
                · have gl : decide ((L : Int) ≤ (k : Int)) = true := decide_eq_true hkL
                  go_wp2
                  go_ret
                  exact ⟨rfl, HU.out⟩
                · have gl : decide ((L : Int) ≤ (k : Int)) = false := decide_eq_false hkL
                  have hkl : k < IMG.length := by have := HLL.out; omega
                  obtain ⟨vc, sc, _, rc, _⟩ := sl_cut HZ.out 0 k (by omega) (by omega)
                  replace rc := rc rfl
                  rw [List.drop_zero, Nat.sub_zero] at sc
                  have hcl : (IMG.take k).length ≤ 500000 := by have := HL.out; rw [List.length_take]; omega
                  have HCk : Hid ((∃ e, decI (IMG.take k) = .error e) ∧ (k < 28 → decI (IMG.take k) = .error .short)) := HC.out k hkl
                  generalize IMG.take k = CUT at sc hcl HCk
                  have HCL : Hid (CUT.length ≤ 500000) := hcl
                  obtain ⟨ac, nc, cc, rfl⟩ : ∃ a n c, vc = .slice a n c := by obtain ⟨ao, c, e, _⟩ := sc; exact ⟨_, _, _, e⟩
                  clear hkl hcl
                  go_wp2_with (at_builtin; refine wpList_bytesR_any _ rfl (.tmp 95) (.tmp 98) rfl (World.heap _).size 0 _ _ [] CUT rfl rfl (own_none _) (sc.up (Up.alloc _ _)) (by simp) ?hl ?_)
                  case hl => have := HCL.out; simp only [List.length_nil]; omega
                  intro v9 w9 o9 g9
                  have U9 : Up w w9 := grownR_up (HU.out.trans (Up.alloc _ (.cells #[] 5))) (own_none _) HU.out.size g9
                  replace o9 := own_z o9
                  have hdec := (HK.out.up U9).dec o9 (by have := HCL.out; omega)
                  obtain ⟨a9, n9, c9, rfl⟩ : ∃ a n c, v9 = .slice a n c := by obtain ⟨ao, c, e, _⟩ := o9; exact ⟨_, _, _, e⟩
                  clear g9 o9 rc sc
                  obtain ⟨er, her⟩ := HCk.out.1
                  rw [her] at hdec
                  have HER : Hid (k < 28 → er = .short) := fun hk => by have := HCk.out.2 hk; rw [her] at this; exact (Except.error.inj this)
                  clear her
                  go_wp2_with fail
                  refine hdec.mono ?_
                  rintro e wa ⟨hEE, ua⟩
                  obtain rfl := hEE.err
                  have Ua := U9.trans ua
                  have ub : Up wa (wa.alloc (.cells #[V 0, V 0, .slice none 0 0] 29)) := Up.alloc _ _
                  have Nb : Box (wa.alloc (.cells #[V 0, V 0, .slice none 0 0] 29)) wa.heap.size #[V 0, V 0, .slice none 0 0] := Box.new _ _ _
                  obtain ⟨m0, m1, m2⟩ := Nb.c3
                  have hzz := empty_zero (wa.alloc (.cells #[V 0, V 0, .slice none 0 0] 29))
                  clear hdec hEE Nb ua
                  go_wp2_with fail
                  refine hzz.mono ?_
                  rintro e wb ⟨rfl, uc⟩
                  have Uc := (Ua.trans ub).trans uc
                  clear hzz m0 m1 m2
                  by_cases h28 : (28 : Int) ≤ (k : Int)
                  · have g28 : decide ((28 : Int) ≤ (k : Int)) = true := decide_eq_true h28
                    go_wp2
                    go_ret
                    exact ⟨rfl, Uc⟩
                  · have g28 : decide ((28 : Int) ≤ (k : Int)) = false := decide_eq_false h28
                    obtain rfl := HER.out (by omega)
                    have cS := (HK.out.up Uc).gS.cell
                    have eS := fun u => eq_same (ad 1) u
                    simp only [gIm]
                    go_wp2
                    go_ret
                    exact ⟨rfl, Uc⟩
            · have h4' : (4 : Int) ≤ (t : Int) := by omega
              have g41 : decide ((t : Int) < 4) = false := decide_eq_false h4
              have g42 : decide ((4 : Int) ≤ (t : Int)) = true := decide_eq_true h4'
              rw [H6.out.2.2.2 (by omega)] at hE
              obtain rfl := hE.err
              simp only [gIm]
              clear hE
              go_wp2_with fail
              refine hz.mono ?_
              rintro e w8 ⟨rfl, u8⟩
              have u0 := U7.trans u8
              have s4 := S8.up u8
              have cF := (HK.out.up u0).gF.cell
              have cU := (HK.out.up u0).gU.cell
              have es := fun u => neq_same (ad 3) u
              clear hz d0 d1 d2 U7 S8 u8 H6
              have HU : Hid (Up w _) := u0
              have HZ : Hid (Sl 0 _ (.slice (some ⟨g4, 0, none⟩) L c4) IMG) := s4
              clear u0 s4
              by_cases hk0 : kk < 0
              · have gk : decide (kk < 0) = true := decide_eq_true hk0
                go_wp2
                go_ret
                exact ⟨rfl, HU.out⟩
              · obtain ⟨k, rfl⟩ := Int.eq_ofNat_of_zero_le (show 0 ≤ kk by omega)
                have gk : decide ((k : Int) < 0) = false := decide_eq_false hk0
                by_cases hkL : (L : Int) ≤ (k : Int)
                · have gl : decide ((L : Int) ≤ (k : Int)) = true := decide_eq_true hkL
                  go_wp2
                  go_ret
                  exact ⟨rfl, HU.out⟩
                · have gl : decide ((L : Int) ≤ (k : Int)) = false := decide_eq_false hkL
                  have hkl : k < IMG.length := by have := HLL.out; omega
                  obtain ⟨vc, sc, _, rc, _⟩ := sl_cut HZ.out 0 k (by omega) (by omega)
                  replace rc := rc rfl
                  rw [List.drop_zero, Nat.sub_zero] at sc
                  have hcl : (IMG.take k).length ≤ 500000 := by have := HL.out; rw [List.length_take]; omega
                  have HCk : Hid ((∃ e, decI (IMG.take k) = .error e) ∧ (k < 28 → decI (IMG.take k) = .error .short)) := HC.out k hkl
                  generalize IMG.take k = CUT at sc hcl HCk
                  have HCL : Hid (CUT.length ≤ 500000) := hcl
                  obtain ⟨ac, nc, cc, rfl⟩ : ∃ a n c, vc = .slice a n c := by obtain ⟨ao, c, e, _⟩ := sc; exact ⟨_, _, _, e⟩
                  clear hkl hcl
                  go_wp2_with (at_builtin; refine wpList_bytesR_any _ rfl (.tmp 95) (.tmp 98) rfl (World.heap _).size 0 _ _ [] CUT rfl rfl (own_none _) (sc.up (Up.alloc _ _)) (by simp) ?hl ?_)
                  case hl => have := HCL.out; simp only [List.length_nil]; omega
                  intro v9 w9 o9 g9
                  have U9 : Up w w9 := grownR_up (HU.out.trans (Up.alloc _ (.cells #[] 5))) (own_none _) HU.out.size g9
                  replace o9 := own_z o9
                  have hdec := (HK.out.up U9).dec o9 (by have := HCL.out; omega)
                  obtain ⟨a9, n9, c9, rfl⟩ : ∃ a n c, v9 = .slice a n c := by obtain ⟨ao, c, e, _⟩ := o9; exact ⟨_, _, _, e⟩
                  clear g9 o9 rc sc
                  obtain ⟨er, her⟩ := HCk.out.1
                  rw [her] at hdec
                  have HER : Hid (k < 28 → er = .short) := fun hk => by have := HCk.out.2 hk; rw [her] at this; exact (Except.error.inj this)
                  clear her
                  go_wp2_with fail
                  refine hdec.mono ?_
                  rintro e wa ⟨hEE, ua⟩
                  obtain rfl := hEE.err
                  have Ua := U9.trans ua
                  have ub : Up wa (wa.alloc (.cells #[V 0, V 0, .slice none 0 0] 29)) := Up.alloc _ _
                  have Nb : Box (wa.alloc (.cells #[V 0, V 0, .slice none 0 0] 29)) wa.heap.size #[V 0, V 0, .slice none 0 0] := Box.new _ _ _
                  obtain ⟨m0, m1, m2⟩ := Nb.c3
                  have hzz := empty_zero (wa.alloc (.cells #[V 0, V 0, .slice none 0 0] 29))
                  clear hdec hEE Nb ua
                  go_wp2_with fail
                  refine hzz.mono ?_
                  rintro e wb ⟨rfl, uc⟩
                  have Uc := (Ua.trans ub).trans uc
                  clear hzz m0 m1 m2
                  by_cases h28 : (28 : Int) ≤ (k : Int)
                  · have g28 : decide ((28 : Int) ≤ (k : Int)) = true := decide_eq_true h28
                    go_wp2
                    go_ret
                    exact ⟨rfl, Uc⟩
                  · have g28 : decide ((28 : Int) ≤ (k : Int)) = false := decide_eq_false h28
                    obtain rfl := HER.out (by omega)
                    have cS := (HK.out.up Uc).gS.cell
                    have eS := fun u => eq_same (ad 1) u
                    simp only [gIm]
                    go_wp2
                    go_ret
                    exact ⟨rfl, Uc⟩
end Go.Proofs.YtooclofdljampaaDoor
