/- record: the law RecordCuts (laid by genCuts.py). -/
import Derived.Test.YtcllenlpoknakaaDoorRcLaw
set_option linter.unusedVariables false
set_option linter.unusedSimpArgs false
namespace Go.Proofs.YtcllenlpoknakaaDoor
open Go Go.RowKit

theorem rhead_cut {base : Nat} {w : World} {v : Value} {b : List UInt8} (hs : Sl base w v b) (n : Nat) (hn : n ≤ b.length) : ∃ ao cap, Sl base w (.slice ao n cap) (b.take n) ∧ ∀ u, (Instr.slice 33 v none (some (.int .i64 (n : Int))) none).run Tryd.prog u = .ok (.slice ao n cap) u := by
  obtain ⟨v4, hs4, _, hcut, _⟩ := sl_cut hs 0 n (by omega) hn
  have hcut := hcut rfl
  rw [List.drop_zero, Nat.sub_zero] at hs4
  have hs5 := hs4
  obtain ⟨ao4, cap4, rfl, _⟩ := hs4
  rw [show (b.take n).length = n by rw [List.length_take]; omega] at hs5 hcut
  exact ⟨ao4, cap4, hs5, hcut⟩
theorem enc_any (r : RecV) (ad : Nat → Addr) (hf : Fit64 r) (hv : validR r) : ∀ more, (more = [] → decR (encR r ++ more) = .ok r) ∧ (more ≠ [] → decR (encR r ++ more) = .error .form) := fun more => by
  have := dec_enc hv hf more
  exact ⟨fun h => by rw [this, if_pos h], fun h => by rw [this, if_neg h]⟩

set_option maxRecDepth 20000 in
set_option maxHeartbeats 3200000 in
theorem RecordCuts_no (k : Int) (f : Nat) (S : ByteArray) (pk : Int) (g s l p t i c : Nat) (q : Int) (base : Nat) (vm : Value) (more : List UInt8) (w : World) (ad : Nat → Addr) (hk : RKn w ad) (hq : -9223372036854775808 ≤ q ∧ q ≤ 9223372036854775807) (hm : Sl base w vm more) (hml : more.length ≤ 140737488351232)
    (hE : ∀ w, RKn w ad → Calls Tryd.prog 12 #[RcV k f S pk g s l p t i c] w fun e w' => e = .returned (.tuple #[.slice none 0 0, E (ad 0)]) ∧ Up w w') :
    Calls Tryd.prog 6 #[RcV k f S pk g s l p t i c, .int .i64 q, vm] w fun e w' => e = .returned (.bool true) ∧ Up w w' := by
  have b0 : Box (w.alloc (.cells #[.int .i64 k, V f, .string S, .int .i64 pk, V g, V s, V l, V p, V t, V i, V c] 32)) w.heap.size #[.int .i64 k, V f, .string S, .int .i64 pk, V g, V s, V l, V p, V t, V i, V c] := Box.new _ _ _
  have u0 : Up w (w.alloc (.cells #[.int .i64 k, V f, .string S, .int .i64 pk, V g, V s, V l, V p, V t, V i, V c] 32)) := Up.alloc _ _
  have hm0 := hm
  obtain ⟨am, cm, rfl, _⟩ := hm0
  obtain ⟨M, hM⟩ : ∃ M, more.length = M := ⟨_, rfl⟩
  have HM : Hid (more.length = M) := hM
  have HL : Hid (more.length ≤ 140737488351232) := hml
  rw [hM] at hm ⊢
  have HS : Hid (Sl base w (.slice am M cm) more) := hm
  clear hm hM hml
  go_enter Tryd.func6, Tryd.ntmps6
  go_upto_region 2 with (go_at_call 9; refine (rawake_any _ ad (hk.up u0)).mono ?_; rintro e w1 ⟨rfl, u1⟩)
  have b1 := b0.up u1
  have U1 := u0.trans u1
  clear b0 u0 u1
  by_cases hbig : (1048576 : Int) < (M : Int)
  · go_wp2
    go_ret
    exact ⟨rfl, U1⟩
  · obtain ⟨c0, c1, c2, c3, c4, c5, c6, c7, c8, c9, c10⟩ := b1.c11
    go_wp2_with fail
    refine (hE _ (hk.up U1)).mono ?_
    rintro e w2 ⟨rfl, u2⟩
    have U2 := U1.trans u2
    have cA := (hk.up U2).gA.cell
    have es := eq_same (ad 0)
    clear b1 U1 u2 hE hk
    clear c0 c1 c2 c3 c4 c5 c6 c7 c8 c9 c10
    go_wp2
    go_ret
    exact ⟨rfl, U2⟩

set_option maxRecDepth 20000 in
set_option maxHeartbeats 3200000 in
theorem RecordCuts_yes (k : Int) (f : Nat) (S : ByteArray) (pk : Int) (g s l p t i c : Nat) (q : Int) (base : Nat) (vm : Value) (more : List UInt8) (w : World) (ad : Nat → Addr) (hk : RKn w ad) (hq : -9223372036854775808 ≤ q ∧ q ≤ 9223372036854775807) (hm : Sl base w vm more) (hml : more.length ≤ 140737488351232) (bs : List UInt8) (hb : bs.length ≤ 99)
    (hE : ∀ w, RKn w ad → Calls Tryd.prog 12 #[RcV k f S pk g s l p t i c] w fun e w' => ∃ v', e = .returned (.tuple #[v', .nilIface]) ∧ Own w' 5 w.heap.size v' bs ∧ Up w w')
    (hshort : ∀ v n w, RKn w ad → Sl 0 w v (bs.take n) → n < bs.length → Calls Tryd.prog 14 #[v] w fun e w' => e = .returned (.tuple #[.agg Zs, E (ad 1)]) ∧ Up w w')
    (hform : ∀ v m w, RKn w ad → Sl 0 w v (bs ++ m) → m ≠ [] → m.length ≤ 1048576 → Calls Tryd.prog 14 #[v] w fun e w' => e = .returned (.tuple #[.agg Zs, E (ad 2)]) ∧ Up w w') :
    Calls Tryd.prog 6 #[RcV k f S pk g s l p t i c, .int .i64 q, vm] w fun e w' => e = .returned (.bool true) ∧ Up w w' := by
  have Hb : Hid (bs.length ≤ 99) := hb
  clear hb
  have b0 : Box (w.alloc (.cells #[.int .i64 k, V f, .string S, .int .i64 pk, V g, V s, V l, V p, V t, V i, V c] 32)) w.heap.size #[.int .i64 k, V f, .string S, .int .i64 pk, V g, V s, V l, V p, V t, V i, V c] := Box.new _ _ _
  have u0 : Up w (w.alloc (.cells #[.int .i64 k, V f, .string S, .int .i64 pk, V g, V s, V l, V p, V t, V i, V c] 32)) := Up.alloc _ _
  have hm0 := hm
  obtain ⟨am, cm, rfl, _⟩ := hm0
  obtain ⟨M, hM⟩ : ∃ M, more.length = M := ⟨_, rfl⟩
  have HM : Hid (more.length = M) := hM
  have HL : Hid (more.length ≤ 140737488351232) := hml
  rw [hM] at hm ⊢
  have HS : Hid (Sl base w (.slice am M cm) more) := hm
  clear hm hM hml
  go_enter Tryd.func6, Tryd.ntmps6
  go_upto_region 2 with (go_at_call 9; refine (rawake_any _ ad (hk.up u0)).mono ?_; rintro e w1 ⟨rfl, u1⟩)
  have b1 := b0.up u1
  have U1 := u0.trans u1
  clear b0 u0 u1
  by_cases hbig : (1048576 : Int) < (M : Int)
  · go_wp2
    go_ret
    exact ⟨rfl, U1⟩
  · have HML : Hid ((M : Int) ≤ 1048576) := by show (M : Int) ≤ 1048576; omega
    obtain ⟨c0, c1, c2, c3, c4, c5, c6, c7, c8, c9, c10⟩ := b1.c11
    go_upto_region 7 with (go_at_call 12; refine (hE _ (hk.up U1)).mono ?_; rintro e w2 ⟨v2, rfl, o2, u2⟩)
    have UX := U1.trans u2
    have HB := own_sl0 o2
    have HB' := HB
    obtain ⟨ab, cb, rfl, _⟩ := HB'
    obtain ⟨N, hN⟩ : ∃ N, bs.length = N := ⟨_, rfl⟩
    have HN : Hid (bs.length = N) := hN
    rw [hN] at HB ⊢
    clear hN b1 U1 u2 hE o2
    clear c0 c1 c2 c3 c4 c5 c6 c7 c8 c9 c10
    by_cases hin : 0 ≤ q ∧ q < (N : Int)
    · obtain ⟨hq0, hqN⟩ := hin
      obtain ⟨n, rfl⟩ := Int.eq_ofNat_of_zero_le hq0
      obtain ⟨ac, cc, hsc, hcut⟩ := rhead_cut HB n (by have := HN.out; omega)
      have hnl : Hid (n < bs.length) := by show n < bs.length; have := HN.out; omega
      have HNc : Hid ((N : Int) ≤ 99) := by show (N : Int) ≤ 99; have := Hb.out; have := HN.out; omega
      have s1 := hsc.up (Up.alloc w2 (.cells #[] 5))
      go_wp2_with (at_builtin; refine wpList_bytesR_any _ rfl (.tmp 42) (.tmp 45) rfl w2.heap.size 0 _ _ [] (bs.take n) rfl rfl (own_none w2) s1 (by simp) (by rw [List.length_take]; have := Hb.out; simp; omega) ?_)
      intro v3 w3 o3 g3
      have U3 : Up w w3 := grownR_up (UX.trans (Up.alloc _ _)) (own_none w2) UX.size g3
      have B3 : Up w2 w3 := grownR_up (Up.alloc _ _) (own_none w2) (Nat.le_refl _) g3
      have HB3 := HB.up B3
      clear s1 g3 hsc
      have hD := hshort v3 n w3 (hk.up U3) (own_sl0 o3) hnl.out
      go_upto_region 9 with (go_at_call 14; refine hD.mono ?_; rintro e w4 ⟨rfl, u4⟩)
      have HB4 := (HB3.up u4).up (Up.alloc w4 (.cells Zs 32))
      have U4 := (U3.trans u4).trans (Up.alloc w4 (.cells Zs 32))
      have cS := (hk.up U4).gS.cell
      have es := eq_same (ad 1)
      have en := neq_same (ad 1)
      have hq2 := zero_ne
      clear hD U3 B3 HB3 HB UX u4 o3
      have b5 : Box (w4.alloc (.cells Zs 32)) w4.heap.size Zs := Box.new _ _ _
      generalize w4.alloc _ = w5 at *
      obtain ⟨c0, c1, c2, c3, c4, c5, c6, c7, c8, c9, c10⟩ := b5.c11
      go_upto_region 11 with fail
      have HB := HB4
      have UX := U4
      clear HB4 U4 cS es en hq2 b5 c0 c1 c2 c3 c4 c5 c6 c7 c8 c9 c10
      by_cases hz : M = 0
      · subst hz
        go_wp2
        go_ret
        exact ⟨rfl, UX⟩
      · have hz0 : ((M : Int) == 0) = false := by simp; omega
        have hmn : more ≠ [] := by rintro rfl; have := HM.out; simp at this; omega
        have s1 := HB.up (Up.alloc w5 (.cells #[] 5))
        go_wp2_with (at_builtin; refine wpList_bytesR_any _ rfl (.tmp 62) (.tmp 63) rfl w5.heap.size 0 _ _ [] bs rfl rfl (own_none w5) s1 (by simp) (by have := Hb.out; simp; omega) ?_)
        intro vy wy oy gy
        have UY : Up w wy := grownR_up (UX.trans (Up.alloc _ _)) (own_none w5) UX.size gy
        have zy : w5.heap.size ≤ wy.heap.size := by have := gy.size; simp at this; omega
        clear s1 gy
        have sm := HS.out.up UY
        go_wp2_with (at_builtin; refine wpList_bytesR_any _ rfl (.tmp 64) (.tmp 65) rfl w5.heap.size base _ _ bs more rfl rfl oy sm zy (by have := Hb.out; have := HL.out; omega) ?_)
        intro vz wz oz gz
        have UZ : Up w wz := grownR_up UY oy UX.size gz
        clear gz sm oy zy UY
        have KZ := hk.up UZ
        have hD := hform _ more wz KZ (own_sl0 oz) hmn (by have := HM.out; have := HML.out; omega)
        go_wp2_with fail
        refine hD.mono ?_
        rintro e wd ⟨rfl, ud⟩
        have UD := UZ.trans ud
        have cF := (hk.up UD).gF.cell
        have gFl := (hk.up UD).gF.lt
        have es := eq_same (ad 2)
        have hq2 := zero_eq
        clear hD UZ KZ ud oz hk
        go_wp2
        go_ret
        exact ⟨rfl, UD.trans (Up.alloc _ _)⟩
    · have hno : ¬ (0 : Int) ≤ q ∨ (0 : Int) ≤ q ∧ ¬ q < (N : Int) := by omega
      rcases hno with h1 | ⟨h1, h2⟩
      · go_upto_region 11 with fail
        by_cases hz : M = 0
        · subst hz
          go_wp2
          go_ret
          exact ⟨rfl, UX⟩
        · have hz0 : ((M : Int) == 0) = false := by simp; omega
          have hmn : more ≠ [] := by rintro rfl; have := HM.out; simp at this; omega
          have s1 := HB.up (Up.alloc w2 (.cells #[] 5))
          go_wp2_with (at_builtin; refine wpList_bytesR_any _ rfl (.tmp 62) (.tmp 63) rfl w2.heap.size 0 _ _ [] bs rfl rfl (own_none w2) s1 (by simp) (by have := Hb.out; simp; omega) ?_)
          intro vy wy oy gy
          have UY : Up w wy := grownR_up (UX.trans (Up.alloc _ _)) (own_none w2) UX.size gy
          have zy : w2.heap.size ≤ wy.heap.size := by have := gy.size; simp at this; omega
          clear s1 gy
          have sm := HS.out.up UY
          go_wp2_with (at_builtin; refine wpList_bytesR_any _ rfl (.tmp 64) (.tmp 65) rfl w2.heap.size base _ _ bs more rfl rfl oy sm zy (by have := Hb.out; have := HL.out; omega) ?_)
          intro vz wz oz gz
          have UZ : Up w wz := grownR_up UY oy UX.size gz
          clear gz sm oy zy UY
          have KZ := hk.up UZ
          have hD := hform _ more wz KZ (own_sl0 oz) hmn (by have := HM.out; have := HML.out; omega)
          go_wp2_with fail
          refine hD.mono ?_
          rintro e wd ⟨rfl, ud⟩
          have UD := UZ.trans ud
          have cF := (hk.up UD).gF.cell
          have gFl := (hk.up UD).gF.lt
          have es := eq_same (ad 2)
          have hq2 := zero_eq
          clear hD UZ KZ ud oz hk
          go_wp2
          go_ret
          exact ⟨rfl, UD.trans (Up.alloc _ _)⟩
      · go_upto_region 11 with fail
        by_cases hz : M = 0
        · subst hz
          go_wp2
          go_ret
          exact ⟨rfl, UX⟩
        · have hz0 : ((M : Int) == 0) = false := by simp; omega
          have hmn : more ≠ [] := by rintro rfl; have := HM.out; simp at this; omega
          have s1 := HB.up (Up.alloc w2 (.cells #[] 5))
          go_wp2_with (at_builtin; refine wpList_bytesR_any _ rfl (.tmp 62) (.tmp 63) rfl w2.heap.size 0 _ _ [] bs rfl rfl (own_none w2) s1 (by simp) (by have := Hb.out; simp; omega) ?_)
          intro vy wy oy gy
          have UY : Up w wy := grownR_up (UX.trans (Up.alloc _ _)) (own_none w2) UX.size gy
          have zy : w2.heap.size ≤ wy.heap.size := by have := gy.size; simp at this; omega
          clear s1 gy
          have sm := HS.out.up UY
          go_wp2_with (at_builtin; refine wpList_bytesR_any _ rfl (.tmp 64) (.tmp 65) rfl w2.heap.size base _ _ bs more rfl rfl oy sm zy (by have := Hb.out; have := HL.out; omega) ?_)
          intro vz wz oz gz
          have UZ : Up w wz := grownR_up UY oy UX.size gz
          clear gz sm oy zy UY
          have KZ := hk.up UZ
          have hD := hform _ more wz KZ (own_sl0 oz) hmn (by have := HM.out; have := HML.out; omega)
          go_wp2_with fail
          refine hD.mono ?_
          rintro e wd ⟨rfl, ud⟩
          have UD := UZ.trans ud
          have cF := (hk.up UD).gF.cell
          have gFl := (hk.up UD).gF.lt
          have es := eq_same (ad 2)
          have hq2 := zero_eq
          clear hD UZ KZ ud oz hk
          go_wp2
          go_ret
          exact ⟨rfl, UD.trans (Up.alloc _ _)⟩

theorem RecordCuts_any (r : RecV) (q : Int) (base : Nat) (vm : Value) (more : List UInt8) (w : World) (ad : Nat → Addr) (hk : RKn w ad) (hf : Fit64 r) (hq : -9223372036854775808 ≤ q ∧ q ≤ 9223372036854775807) (hm : Sl base w vm more) (hml : more.length ≤ 140737488351232) :
    Calls Tryd.prog 6 #[RV r, .int .i64 q, vm] w fun e w' => e = .returned (.bool true) ∧ Up w w' := by
  by_cases hv : validR r
  · have hl := encR_length hv
    refine RecordCuts_yes r.kind r.floor ⟨r.key.toArray⟩ r.pk r.gap r.slack r.limit r.span r.tat r.idx r.cnt q base vm more w ad hk hq hm hml (encR r) (by omega) (fun w _ => Encode_ok r w hf hv) (fun v n w hk hs hn => ?_) (fun v m w hk hs hn hlen => ?_)
    · have := RDecode_any 0 v _ w _ _ hs (by rw [List.length_take]; omega) hk.gS hk.gF
      rw [dec_cut hv hf n hn] at this
      exact this
    · have := RDecode_any 0 v _ w _ _ hs (by rw [List.length_append]; omega) hk.gS hk.gF
      rw [(enc_any r ad hf hv m).2 hn] at this
      exact this
  · have hV := RValid_any r
    rw [decide_eq_false hv] at hV
    exact RecordCuts_no r.kind r.floor ⟨r.key.toArray⟩ r.pk r.gap r.slack r.limit r.span r.tat r.idx r.cnt q base vm more w ad hk hq hm hml (fun w hk => Encode_arg _ _ _ _ _ _ _ _ _ _ _ w _ hk.gA hV)
end Go.Proofs.YtcllenlpoknakaaDoor
