/- Merged: BkDec. -/
import Derived.Test.YtkfjkfpodkbkaaaDoorMk26
import Derived.Test.YtkfjkfpodkbkaaaDoorMk30
import Derived.OwnWalk
import Derived.Deep.RegionWith
set_option linter.unusedVariables false
set_option linter.unusedSimpArgs false
namespace Go.Proofs.YtkfjkfpodkbkaaaDoor
open Go Go.RowKit

/-- What Decode answers. -/
def Decs (w0 w' : World) (ad : Nat → Addr) (e : Ending) : Except DecE (Nat × List Rec) → Prop
  | .error .short => e = .returned (.tuple #[.int .u64 0, .slice none 0 0, eShort ad])
  | .error .form => e = .returned (.tuple #[.int .u64 0, .slice none 0 0, eForm ad])
  | .error .sum => e = .returned (.tuple #[.int .u64 0, .slice none 0 0, eSum ad])
  | .ok (first, L) => ∃ v vs, e = .returned (.tuple #[.int .u64 (first : Int), v, .nilIface]) ∧ Recs w' w0.heap.size v L vs

theorem GlS.short {w : World} {ad : Nat → Addr} (h : GlS w ad) : Gl w 2 (ad 2) := h _ (by simp)
theorem GlS.form {w : World} {ad : Nat → Addr} (h : GlS w ad) : Gl w 3 (ad 3) := h _ (by simp)
theorem GlS.sum {w : World} {ad : Nat → Addr} (h : GlS w ad) : Gl w 4 (ad 4) := h _ (by simp)

theorem Decode_short (base : Nat) (v : Value) (b : List UInt8) (w : World) (ad : Nat → Addr) (hs : Sl base w v b) (hg : GlS w ad) (h : (b.length : Int) < 512) :
    Calls Tryd.prog 15 #[v] w fun e w' => e = .returned (.tuple #[.int .u64 0, .slice none 0 0, eShort ad]) ∧ Up w w' := by
  have hc := hg.short.cell
  obtain ⟨ao, cap, rfl, _⟩ := hs
  obtain ⟨N, hN⟩ : ∃ N, b.length = N := ⟨_, rfl⟩
  rw [hN] at h ⊢
  clear hN
  go_enter Tryd.func15, Tryd.ntmps15
  go_wp2
  go_quiet (fail)
  go_wp2
  go_ret3
  exact ⟨rfl, up_drewN _ _⟩
theorem Decode_long (base : Nat) (v : Value) (b : List UInt8) (w : World) (ad : Nat → Addr) (hs : Sl base w v b) (hg : GlS w ad) (h : (512 : Int) < (b.length : Int)) :
    Calls Tryd.prog 15 #[v] w fun e w' => e = .returned (.tuple #[.int .u64 0, .slice none 0 0, eForm ad]) ∧ Up w w' := by
  have hc := hg.form.cell
  obtain ⟨ao, cap, rfl, _⟩ := hs
  obtain ⟨N, hN⟩ : ∃ N, b.length = N := ⟨_, rfl⟩
  rw [hN] at h ⊢
  clear hN
  have h2 : ¬ (N : Int) < 512 := by omega
  go_enter Tryd.func15, Tryd.ntmps15
  go_wp2
  go_quiet (fail)
  go_wp2
  go_ret3
  exact ⟨rfl, up_drewN _ _⟩
theorem head_cut {base : Nat} {w : World} {v : Value} {b : List UInt8} (hs : Sl base w v b) (n : Nat) (hn : n ≤ b.length) : ∃ ao cap, Sl base w (.slice ao n cap) (b.take n) ∧ ∀ u, (Instr.slice 27 v none (some (.int .i64 (n : Int))) none).run Tryd.prog u = .ok (.slice ao n cap) u := by
  obtain ⟨v4, hs4, _, hcut, _⟩ := sl_cut hs 0 n (by omega) hn
  have hcut := hcut rfl
  rw [List.drop_zero, Nat.sub_zero] at hs4
  have hs5 := hs4
  obtain ⟨ao4, cap4, rfl, _⟩ := hs4
  rw [show (b.take n).length = n by rw [List.length_take]; omega] at hs5 hcut
  exact ⟨ao4, cap4, hs5, hcut⟩
theorem tail_cut {base : Nat} {w : World} {v : Value} {b : List UInt8} (hs : Sl base w v b) (n : Nat) (hn : n ≤ b.length) : ∃ ao cap, Sl base w (.slice ao (b.length - n) cap) (b.drop n) ∧ ∀ u, (Instr.slice 27 v (some (.int .i64 (n : Int))) none none).run Tryd.prog u = .ok (.slice ao (b.length - n) cap) u := by
  obtain ⟨v4, hs4, _, _, hcut⟩ := sl_cut hs n b.length hn (Nat.le_refl _)
  have hcut := hcut rfl
  rw [List.take_of_length_le (by simp)] at hs4
  have hs5 := hs4
  obtain ⟨ao4, cap4, rfl, _⟩ := hs4
  rw [show (b.drop n).length = b.length - n by rw [List.length_drop]] at hs5 hcut
  exact ⟨ao4, cap4, hs5, hcut⟩
/-- A sector of another kind. -/
theorem Decode_mark (base : Nat) (v : Value) (b : List UInt8) (w : World) (ad : Nat → Addr) (hs : Sl base w v b) (hg : GlS w ad) (h : b.length = 512) (hm : b.take 4 ≠ mag) :
    Calls Tryd.prog 15 #[v] w fun e w' => e = .returned (.tuple #[.int .u64 0, .slice none 0 0, eForm ad]) ∧ Up w w' := by
  have hc := hg.form.cell
  obtain ⟨ao4, cap4, hs4, hcut⟩ := head_cut hs 4 (by omega)
  have hst := sl_string hs4
  have hq : (b.take 4 == [84, 66, 48, 49]) = false := by simpa [mag] using hm
  rw [show ((4 : Nat) : Int) = 4 from rfl] at hcut
  obtain ⟨X, hX⟩ : ∃ X, b.take 4 = X := ⟨_, rfl⟩
  rw [hX] at hst hq
  obtain ⟨ao, cap, rfl, _⟩ := hs
  rw [h] at hcut ⊢
  clear hX h hm hs4
  go_enter Tryd.func15, Tryd.ntmps15
  go_wp2
  go_quiet (fail)
  go_wp2
  go_ret3
  exact ⟨rfl, up_drewN _ _⟩

theorem RdrP.mono {P Q : Nat → Prop} {w : World} {r : Nat} {bs : List UInt8} {fv : Value} (h : RdrP P w r bs fv) (hq : ∀ b, P b → Q b) : RdrP Q w r bs fv := by
  obtain ⟨v, h1, ao, cap, rfl, h2, h3, hx⟩ := h
  refine ⟨_, h1, ao, cap, rfl, h2, h3, fun hne => ?_⟩
  obtain ⟨b, o, e, hp, ha⟩ := hx hne
  exact ⟨b, o, e, hq b hp, ha⟩
theorem whole_nil (n : Nat) (bs : List UInt8) (h : n ≤ bs.length) : wholeA n bs .nilIface = lb (bs.take n) ∧ wholeL n bs .nilIface = bs.drop n ∧ ∀ a, wholeF a n bs .nilIface = .nilIface := by
  simp [wholeA, wholeL, wholeF, if_pos h, unle_lb]
theorem But.up {r : Nat} {w0 w w' : World} (h : But r w w') (hu : Up w0 w) (hr : w0.heap.size ≤ r) : Up w0 w' := Below.trans hu (h.below hr hu.size)

set_option maxRecDepth 20000 in
set_option maxHeartbeats 3200000 in
theorem Decode_full (base : Nat) (v : Value) (b : List UInt8) (w : World) (ad : Nat → Addr) (ht : Tb w) (hs : Sl base w v b) (hg : GlS w ad) (h : b.length = 512) (hm : b.take 4 = mag) :
    Calls Tryd.prog 15 #[v] w fun e w' => Decs w w' ad e (decB b) ∧ Up w w' := by
  obtain ⟨ao4, cap4, hs4, hcut⟩ := head_cut hs 4 (by omega)
  have hst := sl_string hs4
  rw [hm] at hst
  have hq : ((mag : List UInt8) == [84, 66, 48, 49]) = true := by decide
  rw [show ((4 : Nat) : Int) = 4 from rfl] at hcut
  obtain ⟨aot, capt, hst4, hcutt⟩ := tail_cut hs 4 (by omega)
  rw [show ((4 : Nat) : Int) = 4 from rfl] at hcutt
  obtain ⟨ao14, cap14, hs14, hcut14⟩ := head_cut hs 14 (by omega)
  rw [show ((14 : Nat) : Int) = 14 from rfl] at hcut14
  obtain ⟨ao18, cap18, hs18, hcut18⟩ := tail_cut hs 18 (by omega)
  rw [show ((18 : Nat) : Int) = 18 from rfl] at hcut18
  obtain ⟨n1, hn1⟩ : ∃ n, lb ((b.drop 4).take 8) = n := ⟨_, rfl⟩
  obtain ⟨n2, hn2⟩ : ∃ n, lb ((b.drop 12).take 2) = n := ⟨_, rfl⟩
  obtain ⟨n3, hn3⟩ : ∃ n, lb ((b.drop 14).take 4) = n := ⟨_, rfl⟩
  have b1 : n1 < 18446744073709551616 := by
    have := lb_lt ((b.drop 4).take 8)
    rw [hn1, show ((b.drop 4).take 8).length = 8 by rw [List.length_take, List.length_drop]; omega] at this
    exact this
  have b2 : n2 < 65536 := by
    have := lb_lt ((b.drop 12).take 2)
    rw [hn2, show ((b.drop 12).take 2).length = 2 by rw [List.length_take, List.length_drop]; omega] at this
    exact this
  have b3 : n3 < 4294967296 := by
    have := lb_lt ((b.drop 14).take 4)
    rw [hn3, show ((b.drop 14).take 4).length = 4 by rw [List.length_take, List.length_drop]; omega] at this
    exact this
  obtain ⟨S, hS⟩ : ∃ S, sumAll (b.take 14) (b.drop 18) = S := ⟨_, rfl⟩
  obtain ⟨D, hD⟩ : ∃ D, decB b = D := ⟨_, rfl⟩
  have Hd : Hid ((n3 ≠ S.toNat → D = .error .sum) ∧ (n3 = S.toNat → ¬ NumOk n1 n2 → D = .error .form) ∧ (n3 = S.toNat → NumOk n1 n2 → parseR n2 (b.drop 18) = none → D = .error .form) ∧ (n3 = S.toNat → NumOk n1 n2 → ∀ rs, parseR n2 (b.drop 18) = some rs → D = .ok (n1, rs))) := by
    have h1 : ¬ b.length < 512 := by omega
    have h2 : ¬ (512 < b.length ∨ b.take 4 ≠ mag) := by rintro (h1 | h1); omega; exact h1 hm
    refine ⟨fun h => ?_, fun h hn => ?_, fun h hn hp => ?_, fun h hn rs hp => ?_⟩
    · rw [← hD, decB, if_neg h1, if_neg h2, hn3, hS, if_pos h]
    · rw [← hD, decB, if_neg h1, if_neg h2, hn3, hS, if_neg (by omega), hn1, hn2, if_pos]
      unfold NumOk at hn; omega
    · rw [← hD, decB, if_neg h1, if_neg h2, hn3, hS, if_neg (by omega), hn1, hn2, if_neg (by unfold NumOk at hn; omega), hp]
    · rw [← hD, decB, if_neg h1, if_neg h2, hn3, hS, if_neg (by omega), hn1, hn2, if_neg (by unfold NumOk at hn; omega), hp]
  rw [hD]
  have HN : Hid (∀ P w r, RdrP P w r (b.drop 4) .nilIface → Gl w 2 (ad 2) → Calls Tryd.prog 23 #[.pointer (some ⟨r, 0, none⟩)] w fun e w' => e = .returned (.int .u64 (n1 : Int)) ∧ RdrP P w' r (b.drop 12) .nilIface ∧ But r w w') := fun P w r hr hgl => by
    have := U64_anyP P r _ _ _ w hr (.inl rfl) hgl
    have hw := whole_nil 8 (b.drop 4) (by rw [List.length_drop]; omega)
    rw [hw.1, hw.2.1, hw.2.2, hn1, List.drop_drop] at this
    exact this
  have HN2 : Hid (∀ P w r, RdrP P w r (b.drop 12) .nilIface → Gl w 2 (ad 2) → Calls Tryd.prog 24 #[.pointer (some ⟨r, 0, none⟩)] w fun e w' => e = .returned (.int .u16 (n2 : Int)) ∧ RdrP P w' r (b.drop 14) .nilIface ∧ But r w w') := fun P w r hr hgl => by
    have := U16_anyP P r _ _ _ w hr (.inl rfl) hgl
    have hw := whole_nil 2 (b.drop 12) (by rw [List.length_drop]; omega)
    rw [hw.1, hw.2.1, hw.2.2, hn2, List.drop_drop] at this
    exact this
  have HN3 : Hid (∀ P w r, RdrP P w r (b.drop 14) .nilIface → Gl w 2 (ad 2) → Calls Tryd.prog 25 #[.pointer (some ⟨r, 0, none⟩)] w fun e w' => e = .returned (.int .u32 (n3 : Int)) ∧ RdrP P w' r (b.drop 18) .nilIface ∧ But r w w') := fun P w r hr hgl => by
    have := U32_anyP P r _ _ _ w hr (.inl rfl) hgl
    have hw := whole_nil 4 (b.drop 14) (by rw [List.length_drop]; omega)
    rw [hw.1, hw.2.1, hw.2.2, hn3, List.drop_drop] at this
    exact this
  have HSum : Hid (∀ u, Up w u → Calls Tryd.prog 26 #[.slice ao14 14 cap14, .slice ao18 (b.length - 18) cap18] u fun e w' => e = .returned (U S) ∧ Up u w') := fun u hu => by
    have := sumOf_any base base _ _ _ _ u (ht.up hu) (hs14.up hu) (hs18.up hu) (by rw [List.length_take]; omega) (by rw [List.length_drop]; omega)
    rw [hS] at this
    exact this
  have HLen : Hid (b.length = 512) := h
  have Hb2 : Hid (n2 < 65536) := b2
  have hb2 : (n2 : Int) ≤ 65535 := by omega
  have hb20 : (0 : Int) ≤ (n2 : Int) := by omega
  have Hb1 : Hid (n1 < 18446744073709551616) := b1
  have Hb3 : Hid (n3 < 4294967296) := b3
  have HT4 : Hid (Sl base w (.slice aot (b.length - 4) capt) (b.drop 4)) := hst4
  obtain ⟨ao, cap, rfl, _⟩ := hs
  rw [h] at hcut hcutt hcut14 hcut18 HSum HT4 ⊢
  clear hD hm h hs4 hs14 hs18 hst4 hS hn1 hn2 hn3 b1 b2 b3 ht
  go_enter Tryd.func15, Tryd.ntmps15
  go_wp2_with fail
  refine (NewReader_any base _ (b.drop 4) _ HT4.out (by rw [List.length_drop, HLen.out]; omega)).mono ?_
  rintro e w1 ⟨r, rfl, hr0, hrd, hu1⟩
  have r1 := Rdr.p hrd
  have g1 := hg.up hu1
  go_wp2_with fail
  refine (HN.out _ _ r r1 g1.short).mono ?_
  rintro e w2 ⟨rfl, r2, k2⟩
  have U2 := k2.up hu1 hr0
  go_wp2_with fail
  refine (HN2.out _ _ r r2 (hg.up U2).short).mono ?_
  rintro e w3 ⟨rfl, r3, k3⟩
  have U3 := k3.up U2 hr0
  go_wp2_with fail
  refine (HN3.out _ _ r r3 (hg.up U3).short).mono ?_
  rintro e w4 ⟨rfl, r4, k4⟩
  have U4 := k4.up U3 hr0
  have R4 : Hid (RdrP (fun b => b < w4.heap.size) w4 r (b.drop 18) .nilIface ∧ w.heap.size ≤ r) := ⟨r4.mono fun b hb => Nat.lt_of_lt_of_le hb (Nat.le_trans k2.size (Nat.le_trans k3.size k4.size)), hr0⟩
  clear r1 r2 r3 r4 k2 k3 k4 g1 hrd hu1 U2 U3 HN HN2 HN3 HT4 hst hq hcut hcutt hr0
  have HG : Hid (GlS w ad) := hg
  have cS := (hg.up U4).sum.cell
  have cF := (hg.up U4).form.cell
  clear hg
  by_cases hsum : n3 = S.toNat
  · subst hsum
    have hsw : ∀ u, Up w4 u → Calls Tryd.prog 26 #[.slice ao14 14 cap14, .slice ao18 (512 - 18) cap18] u fun e w' => e = .returned (U S) ∧ Up u w' := fun u hu => HSum.out u (U4.trans hu)
    have HS2 : Hid _ := hsw
    have HU4 : Hid (Up w w4) := U4
    clear HSum hsw cS U4
    go_wp2_with fail
    go_region_with (go_at_call 26; refine (HS2.out _ (Up.drew w4)).mono ?_; rintro e w5 ⟨rfl, u5⟩)
    have U5 := HU4.out.trans ((Up.drew w4).trans u5)
    have HU5 : Hid (Up w w5) := U5
    have r5 := (R4.out.1.up ((Up.drew w4).trans u5)).mono (fun b hb => Nat.lt_of_lt_of_le hb (show w4.heap.size ≤ w5.heap.size from u5.size))
    have htk := takeRecords_any r n2 (b.drop 18) w5 _ r5 (HG.out.up U5).short (by rw [List.length_drop, HLen.out]; omega) hb2
    have hr5 : w.heap.size ≤ r := R4.out.2
    have cF5 := (HG.out.up U5).form.cell
    clear cF U5 r5 R4 HS2 HU4 u5
    go_wp2_with fail
    refine htk.mono ?_
    rintro e w6 ⟨hT, hb6⟩
    have U6 := hb6.up HU5.out hr5
    have cF6 := (HG.out.up U6).form.cell
    have HNum := numbersHold_any n1 n2 Hb1.out (by omega) w6
    clear htk cF5
    cases hp : parseR n2 (b.drop 18) with
    | none =>
      rw [hp] at hT
      obtain rfl := hT
      have hfin : D = .error .form := by
        by_cases hn : NumOk n1 n2
        · exact Hd.out.2.2.1 trivial hn hp
        · exact Hd.out.2.1 trivial hn
      clear Hd HNum hp
      subst hfin
      go_wp2
      go_quiet (fail)
      go_wp2
      go_ret3
      exact ⟨rfl, U6.trans (up_drewN _ _)⟩
    | some L =>
      rw [hp] at hT
      obtain ⟨v, vs, rfl, hrec⟩ := hT
      have hrec' := hrec.low HU5.out.size
      obtain ⟨av, cv, rfl⟩ := hrec.slice
      by_cases hn : NumOk n1 n2
      · rw [decide_eq_true hn] at HNum
        have hfin : D = .ok (n1, L) := Hd.out.2.2.2 trivial hn L hp
        clear Hd hp hn hrec
        subst hfin
        go_wp2_with fail
        refine HNum.mono ?_
        rintro e w7 ⟨rfl, rfl⟩
        clear HNum
        go_wp2
        go_ret3
        exact ⟨⟨_, _, rfl, hrec'⟩, U6⟩
      · rw [decide_eq_false hn] at HNum
        have hfin : D = .error .form := Hd.out.2.1 trivial hn
        clear Hd hp hn hrec hrec'
        subst hfin
        go_wp2_with fail
        refine HNum.mono ?_
        rintro e w7 ⟨rfl, rfl⟩
        clear HNum
        go_wp2
        go_quiet (fail)
        go_wp2
        go_ret3
        exact ⟨rfl, U6.trans (up_drewN _ _)⟩
  · have hfin : D = .error .sum := Hd.out.1 hsum
    have HS2 : Hid (∀ u, Up w4 u → Calls Tryd.prog 26 #[.slice ao14 14 cap14, .slice ao18 (512 - 18) cap18] u fun e w' => e = .returned (U S) ∧ Up u w') := fun u hu => HSum.out u (U4.trans hu)
    have HU4 : Hid (Up w w4) := U4
    have hne : ((n3 : Int) == (S.toNat : Int)) = false := by simp only [beq_eq_false_iff_ne]; omega
    clear HSum cS U4 Hd cF hsum
    subst hfin
    go_wp2_with fail
    go_region_with (go_at_call 26; refine (HS2.out _ (Up.drew w4)).mono ?_; rintro e w5 ⟨rfl, u5⟩)
    have U5 := HU4.out.trans ((Up.drew w4).trans u5)
    have cS5 := (HG.out.up U5).sum.cell
    clear u5 HS2 HU4
    go_wp2
    go_quiet (fail)
    go_wp2
    go_ret3
    exact ⟨rfl, U5.trans (up_drewN _ _)⟩

theorem Decode_any (base : Nat) (v : Value) (b : List UInt8) (w : World) (ad : Nat → Addr) (ht : Tb w) (hs : Sl base w v b) (hg : GlS w ad) :
    Calls Tryd.prog 15 #[v] w fun e w' => Decs w w' ad e (decB b) ∧ Up w w' := by
  by_cases h1 : b.length < 512
  · have e : decB b = .error .short := by rw [decB, if_pos h1]
    rw [e]
    exact Decode_short base v b w ad hs hg (by omega)
  · by_cases h2 : 512 < b.length
    · have e : decB b = .error .form := by rw [decB, if_neg h1, if_pos (.inl h2)]
      rw [e]
      exact Decode_long base v b w ad hs hg (by omega)
    · by_cases h3 : b.take 4 = mag
      · exact Decode_full base v b w ad ht hs hg (by omega) h3
      · have e : decB b = .error .form := by rw [decB, if_neg h1, if_pos (.inr h3)]
        rw [e]
        exact Decode_mark base v b w ad hs hg (by omega) h3
end Go.Proofs.YtkfjkfpodkbkaaaDoor
