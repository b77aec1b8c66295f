/- Merged: ImForth, ImBack, ImAllW, ImAllL, ImAllA. -/
import Derived.Test.YtooclofdljampaaDoorImLaw2
import Derived.Test.YtooclofdljampaaDoorMiU
import Derived.Test.YtooclofdljampaaDoorMiL
import Derived.Deep.Slices
set_option linter.unusedVariables false
set_option linter.unusedSimpArgs false
namespace Go.Proofs.YtooclofdljampaaDoor
open Go Go.RowKit

/-- The error of a fault. -/
def gIm : ImE → Nat
  | .short => 1
  | .form => 2
  | .sum => 3
theorem gIm_mem (x : ImE) : gIm x ∈ imErrs := by cases x <;> decide
theorem DecP.err {base : Nat} {w : World} {ad : Nat → Addr} {e : Ending} {x : ImE} (h : DecP base w (ad 1) (ad 2) (ad 3) e (.error x)) : e = .returned (.tuple #[S0, E (ad (gIm x))]) := by
  cases x <;> exact h
theorem IKn.dec {w : World} {ad : Nat → Addr} (h : IKn w ad) {base : Nat} {v : Value} {bs : List UInt8} (hs : Sl base w v bs) (hl : bs.length ≤ 140737488351232) :
    Calls Tryd.prog 16 #[v] w fun e w' => DecP w.heap.size w' (ad 1) (ad 2) (ad 3) e (decI bs) ∧ Up w w' :=
  Decode_any hs hl h.tb h.gS h.gF h.gU

set_option maxRecDepth 20000 in
set_option maxHeartbeats 3200000 in
theorem ImageForth_any (base : Nat) (v : Value) (bs : List UInt8) (w : World) (ad : Nat → Addr) (hk : IKn w ad) (h : Sl base w v bs) (hl : bs.length ≤ 140737488351232) :
    Calls Tryd.prog 5 #[v] w fun e w' => e = .returned (.bool true) ∧ Up w w' := by
  have HK : Hid (IKn w ad) := hk
  have HS : Hid (Sl base w v bs ∧ bs.length ≤ 140737488351232) := ⟨h, hl⟩
  obtain ⟨ao, cap, rfl, _⟩ := h
  obtain ⟨N, hN⟩ : ∃ N, bs.length = N := ⟨_, rfl⟩
  have HN : Hid (bs.length = N) := hN
  rw [hN] at HS ⊢
  have hl1 : (N : Int) ≤ 140737488351232 := by omega
  clear hk hN hl
  go_enter Tryd.func5, Tryd.ntmps5
  go_wp2_with fail
  refine (awake_any w ad HK.out).mono ?_
  rintro e w1 ⟨rfl, u0⟩
  by_cases h24 : (16777216 : Int) < (N : Int)
  · go_wp2
    go_ret
    exact ⟨rfl, u0⟩
  · have hb : w1.heap.size ≤ (w1.alloc (.cells #[] 5)).heap.size := by simp
    have hN2 : N ≤ 16777216 := by omega
    have HN2 : Hid (N ≤ 16777216) := hN2
    clear hN2
    go_wp2_with (at_builtin; refine wpList_bytesR_any _ rfl (.tmp 19) (.tmp 20) rfl w1.heap.size base _ _ [] bs rfl rfl (own_none w1) ?hs hb ?hl ?_)
    case hs => exact (HS.out.1.up u0).up (Up.alloc _ _)
    case hl => have := HN.out; have := HN2.out; simp only [List.length_nil]; omega
    intro v2 w2 o2 g2
    have U2 : Up w w2 := grownR_up (u0.trans (Up.alloc w1 (.cells #[] 5))) (own_none w1) u0.size g2
    have K2 := HK.out.up U2
    have hD := K2.dec (own_z o2) (by have := HN.out; have := HN2.out; omega)
    obtain ⟨a2, n2, c2, rfl⟩ : ∃ a n c, v2 = .slice a n c := by obtain ⟨ao, c, e, _⟩ := o2.sl; exact ⟨_, _, _, e⟩
    clear g2 o2 hb
    cases hd : decI bs with
    | error x =>
      rw [hd] at hD
      go_wp2_with fail
      refine hD.mono ?_
      rintro e w3 ⟨hE, u3⟩
      obtain rfl := hE.err
      have U3 := U2.trans u3
      have K3 := HK.out.up U3
      have u4 : Up w3 (w3.alloc (.cells #[V 0, V 0, .slice none 0 0] 29)) := Up.alloc _ _
      have N4 : Box (w3.alloc (.cells #[V 0, V 0, .slice none 0 0] 29)) w3.heap.size #[V 0, V 0, .slice none 0 0] := Box.new _ _ _
      obtain ⟨d0, d1, d2⟩ := N4.c3
      have hz := empty_zero (w3.alloc (.cells #[V 0, V 0, .slice none 0 0] 29))
      clear hE hD K2 N4 hd
      go_wp2_with fail
      refine hz.mono ?_
      rintro e w5 ⟨rfl, u5⟩
      have U5 := (U3.trans u4).trans u5
      have K5 := HK.out.up U5
      have cS := K5.gS.cell
      have cF := K5.gF.cell
      have cU := K5.gU.cell
      clear hz d0 d1 d2 K3
      cases x with
      | short =>
        have e1 := eq_same (ad 1) w5
        simp only [gIm]
        go_wp2
        go_ret
        exact ⟨rfl, U5⟩
      | form =>
        have e1 := K5.ne 2 1 (by decide) (by decide) (by decide)
        have e2 := eq_same (ad 2) w5
        simp only [gIm]
        go_wp2
        go_ret
        exact ⟨rfl, U5⟩
      | sum =>
        have e1 := K5.ne 3 1 (by decide) (by decide) (by decide)
        have e2 := K5.ne 3 2 (by decide) (by decide) (by decide)
        have e3 := eq_same (ad 3) w5
        simp only [gIm]
        go_wp2
        go_ret
        exact ⟨rfl, U5⟩
    | ok s =>
      obtain ⟨l, f, xs⟩ := s
      obtain ⟨hb, hok, h64⟩ := decI_inv hd
      have HX : Hid (bs = imgB ⟨l, f, xs⟩ ∧ okS ⟨l, f, xs⟩ = true ∧ St64 ⟨l, f, xs⟩ ∧ xs.length ≤ 4096) := ⟨hb, hok, h64, ((okS_iff _).1 hok).len⟩
      rw [hd] at hD
      clear hb hok h64 hd
      go_wp2_with fail
      refine hD.mono ?_
      rintro e w3 ⟨⟨vk, rfl, ok⟩, u3⟩
      simp only at ok
      have U3 := U2.trans u3
      have sk := ok.sl
      obtain ⟨ak, nk, ck, rfl⟩ : ∃ a n c, vk = .slice a n c := by obtain ⟨a, c, e⟩ := ok.shape; exact ⟨_, _, _, e⟩
      have u4 : Up w3 (w3.alloc (.cells #[V l, V f, .slice ak nk ck] 29)) := Up.alloc _ _
      have N4 : Box (w3.alloc (.cells #[V l, V f, .slice ak nk ck] 29)) w3.heap.size #[V l, V f, .slice ak nk ck] := Box.new _ _ _
      have U4 := U3.trans u4
      have sk4 := sk.up u4
      clear hD ok u3 U3 K2 sk
      obtain ⟨d0, d1, d2⟩ := N4.c3
      go_wp2_with fail
      refine (copied_any _ l f xs _ sk4 (by have := HX.out.2.2.2; omega)).mono ?_
      rintro e w5 ⟨v5, rfl, o5, u5⟩
      have U5 := U4.trans u5
      have N5 := N4.up u5
      have s5 := sk4.up u5
      have hE := Encode_ok v5 l f xs w5 o5.sl (HK.out.up U5).tb HX.out.2.2.1 HX.out.2.1
      rw [← HX.out.1] at hE
      obtain ⟨a5, n5, k5, rfl⟩ : ∃ a n c, v5 = .slice a n c := by obtain ⟨a, c, e⟩ := o5.shape; exact ⟨_, _, _, e⟩
      clear d0 d1 d2 N4 o5 u5 sk4
      obtain ⟨d0, d1, d2⟩ := N5.c3
      go_wp2_with fail
      refine hE.mono ?_
      rintro e w6 ⟨v6, rfl, o6, u6⟩
      have U6 := U5.trans u6
      have N6 := N5.up u6
      have hV := Valid_any (.slice ak nk ck) l f xs w6 (s5.up u6) (by have := HX.out.2.2.2; omega)
      rw [HX.out.2.1] at hV
      obtain ⟨a6, c6, n6, rfl⟩ : ∃ a n c, v6 = .slice a n c := by obtain ⟨ao, c, e, _⟩ := o6.sl; exact ⟨_, _, _, e⟩
      clear d0 d1 d2 N5 u6 hE s5
      obtain ⟨d0, d1, d2⟩ := N6.c3
      go_wp2_with fail
      refine hV.mono ?_
      rintro e w7 ⟨rfl, u7⟩
      have U7 := U6.trans u7
      have hQ := rsame_any base 0 _ _ bs bs w7 (HS.out.1.up U7) ((own_z o6).up u7) (by have := HN.out; have := HN2.out; omega) (by have := HN.out; have := HN2.out; omega)
      rw [decide_eq_true rfl] at hQ
      clear hV o6 d0 d1 d2 N6
      go_wp2_with fail
      refine hQ.mono ?_
      rintro e w8 ⟨rfl, hw8⟩
      go_wp2
      go_ret
      exact ⟨rfl, U7.trans (drewR_up hw8)⟩
end Go.Proofs.YtooclofdljampaaDoor

set_option linter.unusedVariables false
set_option linter.unusedSimpArgs false
namespace Go.Proofs.YtooclofdljampaaDoor
open Go Go.RowKit

theorem imgB_small {s : StV} (h : okS s = true) : (imgB s).length ≤ 500000 := by
  have hO := (okS_iff s).1 h
  rw [imgB_length]
  have := keysB_len s.keys fun x hx => (hO.each x hx).2.1
  have := hO.len
  omega

set_option maxRecDepth 20000 in
set_option maxHeartbeats 3200000 in
theorem ImageBack_any (v : Value) (l f : Nat) (xs : List Ent) (w : World) (ad : Nat → Addr) (hk : IKn w ad) (h : SlE w v xs) (hl : xs.length ≤ 1759218604390) (h64 : St64 ⟨l, f, xs⟩) :
    Calls Tryd.prog 4 #[.agg #[V l, V f, v]] w fun e w' => e = .returned (.bool true) ∧ Up w w' := by
  have HK : Hid (IKn w ad) := hk
  have HS : Hid (SlE w v xs ∧ xs.length ≤ 1759218604390 ∧ St64 ⟨l, f, xs⟩) := ⟨h, hl, h64⟩
  obtain ⟨ao, cap, rfl⟩ := h.shape
  obtain ⟨N, hN⟩ : ∃ N, xs.length = N := ⟨_, rfl⟩
  rw [hN] at HS ⊢
  have HN : Hid (xs.length = N) := hN
  have b0 : Box (w.alloc (.cells #[V l, V f, .slice ao N cap] 29)) w.heap.size #[V l, V f, .slice ao N cap] := Box.new _ _ _
  have u0 : Up w (w.alloc (.cells #[V l, V f, .slice ao N cap] 29)) := Up.alloc _ _
  clear hk h hl h64 hN
  go_enter Tryd.func4, Tryd.ntmps4
  go_upto_region 1 with fail
  generalize w.alloc (.cells #[V l, V f, .slice ao N cap] 29) = w0 at *
  generalize w.heap.size = B at *
  go_wp2_with fail
  refine (awake_any w0 ad (HK.out.up u0)).mono ?_
  rintro e w1 ⟨rfl, u1⟩
  replace u0 := u0.trans u1
  replace b0 := b0.up u1
  clear u1
  obtain ⟨c0, c1, c2⟩ := b0.c3
  go_wp2_with fail
  refine (wide_any _ l f xs _ (HS.out.1.up u0) (by rw [HN.out]; exact HS.out.2.1)).mono ?_
  rintro e w2 ⟨⟨q, rfl⟩, u1⟩
  replace u0 := u0.trans u1
  replace b0 := b0.up u1
  clear u1 c0 c1 c2
  obtain ⟨c0, c1, c2⟩ := b0.c3
  cases q with
  | true =>
    go_wp2
    go_ret
    exact ⟨rfl, u0⟩
  | false =>
    go_wp2_with fail
    refine (copied_any _ l f xs _ (HS.out.1.up u0) (by rw [HN.out]; exact HS.out.2.1)).mono ?_
    rintro e w3 ⟨v3, rfl, o3, u1⟩
    replace u0 := u0.trans u1
    replace b0 := b0.up u1
    clear u1 c0 c1 c2
    obtain ⟨c0, c1, c2⟩ := b0.c3
    cases hok : okS ⟨l, f, xs⟩ with
    | false =>
      have hE := Encode_no v3 l f xs w3 (ad 0) (HK.out.up u0).gA o3.sl (by have := HN.out; have := HS.out.2.1; omega) hok
      have HO : Hid (okS ⟨l, f, xs⟩ = false) := hok
      obtain ⟨a3, n3, k3, rfl⟩ : ∃ a n c, v3 = .slice a n c := by obtain ⟨a, c, e⟩ := o3.shape; exact ⟨_, _, _, e⟩
      clear hok o3
      go_wp2_with fail
      refine hE.mono ?_
      rintro e w4 ⟨rfl, u1⟩
      replace u0 := u0.trans u1
      replace b0 := b0.up u1
      clear u1 c0 c1 c2 hE
      obtain ⟨c0, c1, c2⟩ := b0.c3
      go_wp2_with fail
      refine (copied_any _ l f xs _ (HS.out.1.up u0) (by rw [HN.out]; exact HS.out.2.1)).mono ?_
      rintro e w5 ⟨v5, rfl, o5, u1⟩
      replace u0 := u0.trans u1
      replace b0 := b0.up u1
      clear u1 c0 c1 c2
      have hV := Valid_any v5 l f xs w5 o5.sl (by have := HN.out; have := HS.out.2.1; omega)
      rw [HO.out] at hV
      obtain ⟨a5, n5, k5, rfl⟩ : ∃ a n c, v5 = .slice a n c := by obtain ⟨a, c, e⟩ := o5.shape; exact ⟨_, _, _, e⟩
      clear o5
      go_wp2_with fail
      refine hV.mono ?_
      rintro e w6 ⟨rfl, u1⟩
      replace u0 := u0.trans u1
      have ge := (HK.out.up u0).gA.cell
      have hq := fun u => eq_same (ad 0) u
      clear hV u1 b0
      go_wp2
      go_ret
      exact ⟨rfl, u0⟩
    | true =>
      have hE := Encode_ok v3 l f xs w3 o3.sl (HK.out.up u0).tb HS.out.2.2 hok
      have HO : Hid (okS ⟨l, f, xs⟩ = true) := hok
      have HL : Hid ((imgB ⟨l, f, xs⟩).length ≤ 500000 ∧ decI (imgB ⟨l, f, xs⟩) = .ok ⟨l, f, xs⟩) := ⟨imgB_small hok, decI_img hok HS.out.2.2⟩
      obtain ⟨a3, n3, k3, rfl⟩ : ∃ a n c, v3 = .slice a n c := by obtain ⟨a, c, e⟩ := o3.shape; exact ⟨_, _, _, e⟩
      generalize imgB ⟨l, f, xs⟩ = IMG at hE HL
      clear hok o3
      go_wp2_with fail
      refine hE.mono ?_
      rintro e w4 ⟨v4, rfl, o4, u1⟩
      replace u0 := u0.trans u1
      replace b0 := b0.up u1
      clear u1 c0 c1 c2 hE
      obtain ⟨c0, c1, c2⟩ := b0.c3
      go_wp2_with fail
      refine (copied_any _ l f xs _ (HS.out.1.up u0) (by rw [HN.out]; exact HS.out.2.1)).mono ?_
      rintro e w5 ⟨v5, rfl, o5, u1⟩
      replace u0 := u0.trans u1
      replace b0 := b0.up u1
      have o6 := own_up o4 u1
      clear u1 c0 c1 c2 o4
      have hV := Valid_any v5 l f xs w5 o5.sl (by have := HN.out; have := HS.out.2.1; omega)
      rw [HO.out] at hV
      obtain ⟨a5, n5, k5, rfl⟩ : ∃ a n c, v5 = .slice a n c := by obtain ⟨a, c, e⟩ := o5.shape; exact ⟨_, _, _, e⟩
      clear o5
      go_wp2_with fail
      refine hV.mono ?_
      rintro e w6 ⟨rfl, u1⟩
      replace u0 := u0.trans u1
      replace b0 := b0.up u1
      have o7 := own_up o6 u1
      clear u1 hV o6
      have K1 := HK.out.up u0
      have hD := Decode_any (own_z o7) (by have := HL.out.1; omega) K1.tb K1.gS K1.gF K1.gU
      rw [HL.out.2] at hD
      obtain ⟨a7, n7, k7, rfl⟩ : ∃ a n c, v4 = .slice a n c := by obtain ⟨ao, c, e, _⟩ := o7.sl; exact ⟨_, _, _, e⟩
      clear o7 K1
      go_wp2_with fail
      refine hD.mono ?_
      rintro e w7 ⟨⟨vk, rfl, ok⟩, u1⟩
      simp only at ok
      replace u0 := u0.trans u1
      replace b0 := b0.up u1
      clear u1 hD
      have sk := ok.sl
      obtain ⟨ak, nk, ck, rfl⟩ : ∃ a n c, vk = .slice a n c := by obtain ⟨a, c, e⟩ := ok.shape; exact ⟨_, _, _, e⟩
      have u4 : Up w7 (w7.alloc (.cells #[V l, V f, .slice ak nk ck] 29)) := Up.alloc _ _
      have N4 : Box (w7.alloc (.cells #[V l, V f, .slice ak nk ck] 29)) w7.heap.size #[V l, V f, .slice ak nk ck] := Box.new _ _ _
      have B4 := b0.up u4
      have hA := alike_self (.slice ak nk ck) (.slice ao N cap) l f xs _ (sk.up u4) (HS.out.1.up (u0.trans u4)) (by have := HN.out; have := HS.out.2.1; omega)
      obtain ⟨c0, c1, c2⟩ := B4.c3
      obtain ⟨d0, d1, d2⟩ := N4.c3
      clear b0 ok sk B4 N4
      go_wp2_with fail
      refine hA.mono ?_
      rintro e w8 ⟨rfl, u5⟩
      go_wp2
      go_ret
      exact ⟨rfl, (u0.trans u4).trans u5⟩
end Go.Proofs.YtooclofdljampaaDoor

set_option linter.unusedVariables false
set_option linter.unusedSimpArgs false
namespace Go.Proofs.YtooclofdljampaaDoor
open Go Go.RowKit

/-- The reference's Decode. -/
theorem qiDecode_any (base : Nat) (v : Value) (bs : List UInt8) (w : World) (hs : Sl base w v bs) (hl : bs.length ≤ 140737488351232) :
    Calls Tryd.prog 23 #[v] w fun e w' => QdP w.heap.size w' e (decI bs) ∧ Up w w' := by
  unfold decI
  by_cases h1 : bs.length < 28
  · rw [if_pos h1]
    exact qiDecode_short base v bs w hs h1
  · rw [if_neg h1]
    by_cases h2 : bs.take 4 ≠ mrk
    · rw [if_pos h2]
      exact qiDecode_mark base v bs w hs (by omega) h2
    · rw [if_neg h2]
      by_cases h3 : lb (bs.drop (bs.length - 4)) ≠ (sumC (bs.take (bs.length - 4))).toNat
      · rw [if_pos h3]
        exact qiDecode_main base v bs w true hs (by omega) (Classical.not_not.1 h2) hl (by simp only [bne_iff_ne, ne_eq]; omega) _ (if_pos rfl)
      · rw [if_neg h3]
        exact qiDecode_main base v bs w false hs (by omega) (Classical.not_not.1 h2) hl (by simp only [bne_eq_false_iff_eq]; omega) _ (if_neg (by simp))

/-- What the law ImageAll knows of memory. -/
structure IKA (w : World) (ad : Nat → Addr) : Prop where
  tb : Tb w
  er : ErrSet allErrs errTxt w ad
theorem IKA.up {w w' : World} {ad : Nat → Addr} (h : IKA w ad) (u : Up w w') : IKA w' ad := ⟨h.tb.up u, h.er.up u⟩
theorem IKA.ik {w : World} {ad : Nat → Addr} (h : IKA w ad) : IKn w ad := ⟨h.tb, fun g hg => h.er g (im_sub g hg)⟩

set_option maxHeartbeats 800000 in
theorem iOf_Arg (w : World) (ad : Nat → Addr) (h : ErrSet allErrs errTxt w ad) :
    Calls Tryd.prog 38 #[E (ad 0)] w fun e w' => e = .returned (.int .i64 1) ∧ w' = w := by
  have cArg := (h 0 (by decide)).1.cell
  have sArg := eq_same (ad 0)
  clear h
  generalize ad 0 = aArg at *
  go_enter Tryd.func38, Tryd.ntmps38
  go_wp2
  go_ret
  exact ⟨rfl, rfl⟩
set_option maxHeartbeats 800000 in
theorem iOf_Sum (w : World) (ad : Nat → Addr) (h : ErrSet allErrs errTxt w ad) :
    Calls Tryd.prog 38 #[E (ad 3)] w fun e w' => e = .returned (.int .i64 5) ∧ w' = w := by
  have cArg := (h 0 (by decide)).1.cell
  have cShort := (h 1 (by decide)).1.cell
  have cForm := (h 2 (by decide)).1.cell
  have cLong := (h 4 (by decide)).1.cell
  have cSum := (h 3 (by decide)).1.cell
  have nArg := h.other errTxt_unlike 3 0 (by decide) (by decide) (by decide)
  have nShort := h.other errTxt_unlike 3 1 (by decide) (by decide) (by decide)
  have nForm := h.other errTxt_unlike 3 2 (by decide) (by decide) (by decide)
  have nLong := h.other errTxt_unlike 3 4 (by decide) (by decide) (by decide)
  have sSum := eq_same (ad 3)
  clear h
  generalize ad 0 = aArg at *
  generalize ad 1 = aShort at *
  generalize ad 2 = aForm at *
  generalize ad 4 = aLong at *
  generalize ad 3 = aSum at *
  go_enter Tryd.func38, Tryd.ntmps38
  go_wp2
  go_ret
  exact ⟨rfl, rfl⟩

/-- The state, the error and the number of an answer of Decode. -/
def resS : Except ImE StV → StV
  | .ok s => s
  | .error _ => ⟨0, 0, []⟩
def resE (ad : Nat → Addr) : Except ImE StV → Value
  | .ok _ => .nilIface
  | .error x => E (ad (gIm x))
def resN : Except ImE StV → Nat
  | .ok _ => 0
  | .error .short => 2
  | .error .form => 3
  | .error .sum => 5
theorem Is_res (R : Except ImE StV) (w : World) (ad : Nat → Addr) (h : IKA w ad) :
    Calls Tryd.prog 22 #[resE ad R, .int .i64 (resN R : Nat)] w fun e w' => e = .returned (.bool true) ∧ w' = w := by
  match R with
  | .ok _ => exact Is_of _ 0 0 w (Of_none w)
  | .error .short => exact Is_of _ 2 2 w (Of_Short errTxt w ad h.er errTxt_unlike)
  | .error .form => exact Is_of _ 3 3 w (Of_Form errTxt w ad h.er errTxt_unlike)
  | .error .sum => exact Is_of _ 5 5 w (iOf_Sum w ad h.er)
theorem dec_res {base : Nat} {v : Value} {bs : List UInt8} {w : World} {ad : Nat → Addr} (h : IKA w ad) (hs : Sl base w v bs) (hl : bs.length ≤ 140737488351232) :
    Calls Tryd.prog 16 #[v] w fun e w' => (∃ vk, e = .returned (.tuple #[.agg #[V (resS (decI bs)).lsn, V (resS (decI bs)).floor, vk], resE ad (decI bs)]) ∧ SlE w' vk (resS (decI bs)).keys) ∧ Up w w' := by
  refine (h.ik.dec hs hl).mono ?_
  rintro e w' ⟨hD, u⟩
  refine ⟨?_, u⟩
  generalize decI bs = R at *
  cases R with
  | ok s =>
    obtain ⟨vk, rfl, o⟩ := hD
    exact ⟨vk, rfl, o.sl⟩
  | error x => exact ⟨.slice none 0 0, hD.err, SlE.nil w'⟩
theorem qdec_res {base : Nat} {v : Value} {bs : List UInt8} {w : World} (hs : Sl base w v bs) (hl : bs.length ≤ 140737488351232) :
    Calls Tryd.prog 23 #[v] w fun e w' => (∃ vk, e = .returned (.tuple #[.agg #[V (resS (decI bs)).lsn, V (resS (decI bs)).floor, vk], .int .i64 (resN (decI bs) : Nat)]) ∧ SlE w' vk (resS (decI bs)).keys) ∧ Up w w' := by
  refine (qiDecode_any base v bs w hs hl).mono ?_
  rintro e w' ⟨hD, u⟩
  refine ⟨?_, u⟩
  generalize decI bs = R at *
  cases R with
  | ok s =>
    obtain ⟨vk, rfl, o⟩ := hD
    exact ⟨vk, rfl, o.sl⟩
  | error x => cases x <;> exact ⟨.slice none 0 0, hD, SlE.nil w'⟩
theorem res_len (bs : List UInt8) : (resS (decI bs)).keys.length ≤ 4096 := by
  cases h : decI bs with
  | ok s => exact ((okS_iff s).1 (decI_inv h).2.1).len
  | error x => exact Nat.zero_le _

/-- The bytes, the error and the number of an answer of Encode. -/
def encS (s : StV) : List UInt8 := if okS s = true then imgB s else []
def encE (ad : Nat → Addr) (s : StV) : Value := if okS s = true then .nilIface else E (ad 0)
def encN (s : StV) : Nat := if okS s = true then 0 else 1
theorem encS_le (s : StV) : (encS s).length ≤ 500000 := by
  unfold encS
  split
  · exact imgB_small (by assumption)
  · exact Nat.zero_le _
theorem sl_nilI (w : World) : Sl 0 w (.slice none 0 0) [] := ⟨none, 0, rfl, Nat.le_refl _, fun _ => rfl, fun h => absurd rfl h⟩
theorem Is_enc (s : StV) (w : World) (ad : Nat → Addr) (h : IKA w ad) :
    Calls Tryd.prog 22 #[encE ad s, .int .i64 (encN s : Nat)] w fun e w' => e = .returned (.bool true) ∧ w' = w := by
  unfold encE encN
  split
  · exact Is_of _ 0 0 w (Of_none w)
  · exact Is_of _ 1 1 w (iOf_Arg w ad h.er)
theorem enc_res {v : Value} {l f : Nat} {xs : List Ent} {w : World} {ad : Nat → Addr} (hk : IKA w ad) (h : SlE w v xs) (hl : xs.length ≤ 1759218604390) (h64 : St64 ⟨l, f, xs⟩) :
    Calls Tryd.prog 13 #[.agg #[V l, V f, v]] w fun e w' => (∃ v', e = .returned (.tuple #[v', encE ad ⟨l, f, xs⟩]) ∧ Sl 0 w' v' (encS ⟨l, f, xs⟩)) ∧ Up w w' := by
  unfold encE encS
  cases hok : okS ⟨l, f, xs⟩ with
  | true =>
    simp only [if_true]
    refine (Encode_ok v l f xs w h hk.tb h64 hok).mono ?_
    rintro e w' ⟨v', rfl, o, u⟩
    exact ⟨⟨v', rfl, own_z o⟩, u⟩
  | false =>
    simp only [Bool.false_eq_true, if_false]
    refine (Encode_no v l f xs w _ hk.ik.gA h (by omega) hok).mono ?_
    rintro e w' ⟨rfl, u⟩
    exact ⟨⟨_, rfl, sl_nilI w'⟩, u⟩
theorem qenc_res {v : Value} {l f : Nat} {xs : List Ent} {w : World} (h : SlE w v xs) (hl : xs.length ≤ 1759218604390) (h64 : St64 ⟨l, f, xs⟩) (hxs : ∀ x ∈ xs, x.1.size ≤ 9223372036854775807) :
    Calls Tryd.prog 21 #[.agg #[V l, V f, v]] w fun e w' => (∃ v', e = .returned (.tuple #[v', .int .i64 (encN ⟨l, f, xs⟩ : Nat)]) ∧ Sl 0 w' v' (encS ⟨l, f, xs⟩)) ∧ Up w w' := by
  unfold encN encS
  cases hok : okS ⟨l, f, xs⟩ with
  | true =>
    simp only [if_true]
    refine (qiEncode_ok v l f xs w h h64 hok).mono ?_
    rintro e w' ⟨v', rfl, o, u⟩
    exact ⟨⟨v', rfl, own_z o⟩, u⟩
  | false =>
    simp only [Bool.false_eq_true, if_false]
    refine (qiEncode_no v l f xs w h (by omega) hxs hok).mono ?_
    rintro e w' ⟨rfl, u⟩
    exact ⟨⟨_, rfl, sl_nilI w'⟩, u⟩

/-- An Op as a value, and in cells. -/
abbrev OpI (q : Int) (l f : Nat) (vk vB : Value) : Value := .agg #[.int .i64 q, V l, V f, vk, vB]
abbrev OpIC (q : Int) (l f : Nat) (vk vB : Value) : Array Value := #[.int .i64 q, V l, V f, vk, vB]
theorem iplay0 (q : Int) (l f : Nat) (vk vB : Value) (w : World) (hK : ∃ a n c, vk = .slice a n c) (hB : ∃ a n c, vB = .slice a n c) (h1 : ¬ q = 1) (h2 : ¬ q = 2) :
    Calls Tryd.prog 11 #[OpI q l f vk vB] w fun e w' => e = .returned (.bool true) ∧ Up w w' := by
  obtain ⟨a, n, c', rfl⟩ := hB
  obtain ⟨a2, n2, c2, rfl⟩ := hK
  go_enter Tryd.func11, Tryd.ntmps11
  go_wp2
  go_ret
  exact ⟨rfl, Up.alloc _ _⟩

set_option maxRecDepth 20000 in
set_option maxHeartbeats 3200000 in
theorem iplay1 (l f : Nat) (vk vB : Value) (xs : List Ent) (w : World) (ad : Nat → Addr) (hk : IKA w ad) (h : SlE w vk xs) (hl : xs.length ≤ 1759218604390) (h64 : St64 ⟨l, f, xs⟩) (hxs : ∀ x ∈ xs, x.1.size ≤ 9223372036854775807) (hB : ∃ a n c, vB = .slice a n c) :
    Calls Tryd.prog 11 #[OpI 1 l f vk vB] w fun e w' => e = .returned (.bool true) ∧ Up w w' := by
  obtain ⟨ab, nb, cb, rfl⟩ := hB
  have HK : Hid (IKA w ad) := hk
  have HS : Hid (SlE w vk xs ∧ xs.length ≤ 1759218604390 ∧ St64 ⟨l, f, xs⟩ ∧ ∀ x ∈ xs, x.1.size ≤ 9223372036854775807) := ⟨h, hl, h64, hxs⟩
  obtain ⟨ao, cap, rfl⟩ := h.shape
  obtain ⟨N, hN⟩ : ∃ N, xs.length = N := ⟨_, rfl⟩
  rw [hN] at HS ⊢
  have HN : Hid (xs.length = N) := hN
  have b0 : Box (w.alloc (.cells (OpIC 1 l f (.slice ao N cap) (.slice ab nb cb)) 32)) w.heap.size (OpIC 1 l f (.slice ao N cap) (.slice ab nb cb)) := Box.new _ _ _
  have u0 : Up w (w.alloc (.cells (OpIC 1 l f (.slice ao N cap) (.slice ab nb cb)) 32)) := Up.alloc _ _
  obtain ⟨w0, hw0⟩ : ∃ w0, w.alloc (.cells (OpIC 1 l f (.slice ao N cap) (.slice ab nb cb)) 32) = w0 := ⟨_, rfl⟩
  rw [hw0] at b0 u0
  clear hk h hl h64 hxs hN
  obtain ⟨c0, c1, c2, c3, c4⟩ := b0.c5
  go_enter Tryd.func11, Tryd.ntmps11
  go_upto_region 3 with fail
  (try simp only [hw0])
  clear hw0
  go_wp2_with fail
  refine (copied_any _ l f xs _ (HS.out.1.up u0) (by rw [HN.out]; exact HS.out.2.1)).mono ?_
  rintro e w3 ⟨v3, rfl, o3, u1⟩
  replace u0 := u0.trans u1
  replace b0 := b0.up u1
  have hE := enc_res (HK.out.up u0) o3.sl (by have := HN.out; have := HS.out.2.1; omega) HS.out.2.2.1
  obtain ⟨a3, n3, k3, rfl⟩ : ∃ a n c, v3 = .slice a n c := by obtain ⟨a, c, e⟩ := o3.shape; exact ⟨_, _, _, e⟩
  clear u1 o3 c0 c1 c2 c3 c4
  obtain ⟨c0, c1, c2, c3, c4⟩ := b0.c5
  have HI := fun w' (u : Up w w') => Is_enc ⟨l, f, xs⟩ w' ad (HK.out.up u)
  have HEL : Hid ((encS ⟨l, f, xs⟩).length ≤ 500000) := encS_le _
  obtain ⟨ER, hER⟩ : ∃ ER, encE ad ⟨l, f, xs⟩ = ER := ⟨_, rfl⟩
  have hQ := fun w' (u : Up w w') => qenc_res (HS.out.1.up u) (by rw [HN.out]; exact HS.out.2.1) HS.out.2.2.1 HS.out.2.2.2
  rw [hER] at hE HI
  generalize encN ⟨l, f, xs⟩ = NR at *
  generalize encS ⟨l, f, xs⟩ = IMG at *
  clear hER
  go_wp2_with fail
  refine hE.mono ?_
  rintro e w4 ⟨⟨v4, rfl, o4⟩, u1⟩
  obtain ⟨a4, n4, k4, rfl⟩ : ∃ a n c, v4 = .slice a n c := by obtain ⟨ao, c, e, _⟩ := o4; exact ⟨_, _, _, e⟩
  replace u0 := u0.trans u1
  replace b0 := b0.up u1
  clear u1 hE c0 c1 c2 c3 c4
  obtain ⟨c0, c1, c2, c3, c4⟩ := b0.c5
  have hQ1 := hQ w4 u0
  clear hQ
  go_wp2_with fail
  refine hQ1.mono ?_
  rintro e w5 ⟨⟨v5, rfl, o5⟩, u1⟩
  obtain ⟨a5, n5, k5, rfl⟩ : ∃ a n c, v5 = .slice a n c := by obtain ⟨ao, c, e, _⟩ := o5; exact ⟨_, _, _, e⟩
  replace u0 := u0.trans u1
  replace b0 := b0.up u1
  replace o4 := o4.up u1
  clear u1 hQ1 c0 c1 c2 c3 c4
  have hI1 := HI w5 u0
  have hR := rsame_any 0 0 _ _ IMG IMG w5 o4 o5 (by have := HEL.out; omega) (by have := HEL.out; omega)
  rw [decide_eq_true (rfl : IMG = IMG)] at hR
  clear HI o4 o5 b0
  go_wp2_with fail
  refine hI1.mono ?_
  rintro e w6 ⟨rfl, e6⟩
  subst e6
  clear hI1
  go_wp2_with fail
  refine hR.mono ?_
  rintro e w7 ⟨rfl, hn⟩
  have u7 := u0.trans (drewR_up hn)
  clear hR hn
  go_wp2
  go_ret
  exact ⟨rfl, u7⟩

set_option maxRecDepth 20000 in
set_option maxHeartbeats 3200000 in
theorem iplay2 (l f : Nat) (vk vB : Value) (bs : List UInt8) (w : World) (ad : Nat → Addr) (hk : IKA w ad) (hK : ∃ a n c, vk = .slice a n c) (hB : Sl 0 w vB bs) (hl : bs.length ≤ 140737488351232) :
    Calls Tryd.prog 11 #[OpI 2 l f vk vB] w fun e w' => e = .returned (.bool true) ∧ Up w w' := by
  have HL : Hid (bs.length ≤ 140737488351232) := hl
  obtain ⟨ao, no, co, rfl⟩ := hK
  obtain ⟨a, c', rfl, _⟩ := id hB
  obtain ⟨N, hN⟩ : ∃ N, bs.length = N := ⟨_, rfl⟩
  have HN : Hid (bs.length = N) := hN
  rw [hN] at hB ⊢
  clear hN hl
  have b0 : Box (w.alloc (.cells (OpIC 2 l f (.slice ao no co) (.slice a N c')) 32)) w.heap.size (OpIC 2 l f (.slice ao no co) (.slice a N c')) := Box.new _ _ _
  have u0 : Up w (w.alloc (.cells (OpIC 2 l f (.slice ao no co) (.slice a N c')) 32)) := Up.alloc _ _
  obtain ⟨w1, hw1⟩ : ∃ w1, w.alloc (.cells (OpIC 2 l f (.slice ao no co) (.slice a N c')) 32) = w1 := ⟨_, rfl⟩
  rw [hw1] at b0 u0
  have HB : Hid (Sl 0 w (.slice a N c') bs) := hB
  have HK : Hid (IKA w ad) := hk
  obtain ⟨R, hR⟩ : ∃ R, decI bs = R := ⟨_, rfl⟩
  have HLR : Hid ((resS R).keys.length ≤ 140737488355328) := by have := res_len bs; rw [hR] at this; show _ ≤ _; omega
  have HD : Hid (∀ v w, IKA w ad → Sl 0 w v bs → Calls Tryd.prog 16 #[v] w fun e w' => (∃ vk, e = .returned (.tuple #[.agg #[V (resS R).lsn, V (resS R).floor, vk], resE ad R]) ∧ SlE w' vk (resS R).keys) ∧ Up w w') := fun v w k s => by
    have := dec_res k s HL.out
    rwa [hR] at this
  have HQ : Hid (∀ v w, Sl 0 w v bs → Calls Tryd.prog 23 #[v] w fun e w' => (∃ vk, e = .returned (.tuple #[.agg #[V (resS R).lsn, V (resS R).floor, vk], .int .i64 (resN R : Nat)]) ∧ SlE w' vk (resS R).keys) ∧ Up w w') := fun v w s => by
    have := qdec_res s HL.out
    rwa [hR] at this
  have HI : Hid (∀ w, IKA w ad → Calls Tryd.prog 22 #[resE ad R, .int .i64 (resN R : Nat)] w fun e w' => e = .returned (.bool true) ∧ w' = w) := fun w k => Is_res R w ad k
  obtain ⟨ER, hER⟩ : ∃ ER, resE ad R = ER := ⟨_, rfl⟩
  rw [hER] at HD HI
  generalize resN R = NR at *
  clear hER hR
  generalize resS R = S at *
  obtain ⟨sl, sf, ks⟩ := S
  simp only at HD HQ HLR
  have zb := b0.lt
  obtain ⟨c0, c1, c2, c3, c4⟩ := b0.c5
  clear hB hk
  go_enter Tryd.func11, Tryd.ntmps11
  go_upto_region 7 with fail
  (try simp only [hw1])
  clear hw1
  go_wp2_with (at_builtin; refine wpList_bytesR_any _ rfl (.tmp 39) (.tmp 41) rfl w1.heap.size 0 _ _ [] bs rfl rfl (own_none w1) ((HB.out.up u0).up (Up.alloc w1 (.cells #[] 5))) (by simp) (by have := HL.out; simp; omega) ?_)
  intro v2 w2 o2 g2
  have B2 : Up w1 w2 := grownR_up (Up.alloc _ _) (own_none w1) (Nat.le_refl _) g2
  have b2 := b0.up B2
  have U2 := u0.trans B2
  clear c0 c1 c2 c3 c4 b0 zb g2 B2 u0
  obtain ⟨c0, c1, c2, c3, c4⟩ := b2.c5
  go_wp2_with fail
  refine (HD.out v2 w2 (HK.out.up U2) (own_z o2)).mono ?_
  rintro e w3 ⟨⟨v3, rfl, s3⟩, u3⟩
  obtain ⟨a3, n3, k3, rfl⟩ : ∃ a n c, v3 = .slice a n c := by obtain ⟨a, c, e⟩ := s3.shape; exact ⟨_, _, _, e⟩
  have b3 := b2.up u3
  have U3 := U2.trans u3
  have z3 := b3.lt
  clear c0 c1 c2 c3 c4 o2 u3 U2 b2
  obtain ⟨c0, c1, c2, c3, c4⟩ := b3.c5
  have bq : Box (w3.alloc (.cells #[V sl, V sf, .slice a3 n3 k3] 29)) w3.heap.size #[V sl, V sf, .slice a3 n3 k3] := Box.new _ _ _
  have uq : Up w3 (w3.alloc (.cells #[V sl, V sf, .slice a3 n3 k3] 29)) := Up.alloc _ _
  have kQ := HQ.out _ _ ((HB.out.up U3).up uq)
  go_wp2_with fail
  refine kQ.mono ?_
  rintro e w4 ⟨⟨v4, rfl, s4⟩, u4⟩
  obtain ⟨a4, n4, k4, rfl⟩ : ∃ a n c, v4 = .slice a n c := by obtain ⟨a, c, e⟩ := s4.shape; exact ⟨_, _, _, e⟩
  have un : Up w4 (w4.alloc (.cells #[V sl, V sf, .slice a4 n4 k4] 29)) := Up.alloc _ _
  have bn : Box (w4.alloc (.cells #[V sl, V sf, .slice a4 n4 k4] 29)) w4.heap.size #[V sl, V sf, .slice a4 n4 k4] := Box.new _ _ _
  have b4 := (bq.up u4).up un
  have U5 := ((U3.trans uq).trans u4).trans un
  have hA := alike_self (.slice a3 n3 k3) (.slice a4 n4 k4) sl sf ks _ (((s3.up uq).up u4).up un) (s4.up un) HLR.out
  clear c0 c1 c2 c3 c4 kQ bq uq b3 U3 u4 z3 s3 s4
  obtain ⟨c0, c1, c2⟩ := b4.c3
  obtain ⟨d0, d1, d2⟩ := bn.c3
  have hI := HI.out _ (HK.out.up U5)
  go_wp2_with fail
  refine hI.mono ?_
  rintro e w5 ⟨rfl, e5⟩
  subst e5
  clear hI
  go_wp2_with fail
  refine hA.mono ?_
  rintro e w6 ⟨rfl, u6⟩
  have U6 := U5.trans u6
  clear hA
  go_wp2
  go_ret
  exact ⟨rfl, U6⟩
end Go.Proofs.YtooclofdljampaaDoor

set_option linter.unusedVariables false
set_option linter.unusedSimpArgs false
namespace Go.Proofs.YtooclofdljampaaDoor
open Go Go.RowKit

/-- One call. -/
structure OpIm where
  q : Int
  s : StV
  b : List UInt8
structure OpIm.Fits (o : OpIm) : Prop where
  s64 : St64 o.s
  sz : ∀ x ∈ o.s.keys, x.1.size ≤ 9223372036854775807
  len : (o.s.keys.length : Int) ≤ 1759218604390
  b : (o.b.length : Int) ≤ 140737488351232
def OpImAt (w : World) (b o : Nat) (p : OpIm) : Prop :=
  ∃ vk vB, (w.cell? ⟨b, o, none⟩ = some (.int .i64 p.q) ∧ w.cell? ⟨b, o + 1, none⟩ = some (V p.s.lsn) ∧ w.cell? ⟨b, o + 2, none⟩ = some (V p.s.floor) ∧ w.cell? ⟨b, o + 3, none⟩ = some vk ∧ w.cell? ⟨b, o + 4, none⟩ = some vB) ∧ SlE w vk p.s.keys ∧ Sl 0 w vB p.b
def OpsImIn (w : World) (v : Value) (ps : List OpIm) : Prop :=
  ∃ ao cap, v = .slice ao ps.length cap ∧ (ps ≠ [] → ∃ b o, ao = some ⟨b, o, none⟩ ∧ ∀ i (h : i < ps.length), OpImAt w b (o + i * 5) ps[i])
theorem OpImAt.up {w w' : World} {b o : Nat} {p : OpIm} (h : OpImAt w b o p) (hu : Up w w') : OpImAt w' b o p := by
  obtain ⟨vk, vB, ⟨h0, h1, h2, h3, h4⟩, hk, hs⟩ := h
  have hb : b < w.heap.size := World.block_lt_of_cell? w _ h0
  have k : ∀ j v, w.cell? ⟨b, j, none⟩ = some v → w'.cell? ⟨b, j, none⟩ = some v := fun j v h => (hu.cell (p := ⟨b, j, none⟩) hb).trans h
  exact ⟨vk, vB, ⟨k _ _ h0, k _ _ h1, k _ _ h2, k _ _ h3, k _ _ h4⟩, hk.up hu, hs.up hu⟩

theorem iplays_any (p : OpIm) (vk vB : Value) (w : World) (ad : Nat → Addr) (hk : IKA w ad) (hK : SlE w vk p.s.keys) (hB : Sl 0 w vB p.b) (hf : p.Fits) :
    Calls Tryd.prog 11 #[OpI p.q p.s.lsn p.s.floor vk vB] w fun e w' => e = .returned (.bool true) ∧ Up w w' := by
  have sB : ∃ a n c, vB = .slice a n c := by obtain ⟨a, c, e, _⟩ := hB; exact ⟨a, _, c, e⟩
  have sK : ∃ a n c, vk = .slice a n c := by obtain ⟨a, c, e⟩ := hK.shape; exact ⟨a, _, c, e⟩
  by_cases h1 : p.q = 1
  · rw [h1]
    exact iplay1 _ _ vk vB _ w ad hk hK (by have := hf.len; omega) hf.s64 hf.sz sB
  by_cases h2 : p.q = 2
  · rw [h2]
    exact iplay2 _ _ vk vB p.b w ad hk sK hB (by have := hf.b; omega)
  · exact iplay0 _ _ _ vk vB w sK sB h1 h2

set_option maxRecDepth 20000 in
set_option maxHeartbeats 3200000 in
theorem imuch_any (v : Value) (ps : List OpIm) (w : World) (hp : OpsImIn w v ps) (hlen : (ps.length : Int) ≤ 140737488351232) (hf : ∀ p ∈ ps, p.Fits) :
    Calls Tryd.prog 10 #[v] w fun e w' => SomeB e ∧ Up w w' := by
  obtain ⟨ao, cap, rfl, hpx⟩ := hp
  have HF : Hid (∀ p ∈ ps, p.Fits) := hf
  clear hf
  obtain ⟨N, hN⟩ : ∃ N, ps.length = N := ⟨_, rfl⟩
  have HN : Hid (ps.length = N) := hN
  rw [hN] at hlen ⊢
  clear hN
  go_enter Tryd.func10, Tryd.ntmps10
  go_wp2
  go_loopg [3, 4, 5] N (fun g x y i wr => ∃ k n m : Nat, k ≤ N ∧ g = N - k ∧ i = .int .i64 k ∧ x = .int .i64 (n : Int) ∧ y = .int .i64 (m : Int) ∧ (n : Int) ≤ 1760000000000 ∧ (m : Int) ≤ 140737505128449 ∧ Hid (Up w wr))
  case atStart => exact ⟨0, 0, 0, by omega, rfl, rfl, rfl, rfl, by omega, by omega, Up.refl w⟩
  case round =>
    obtain ⟨k, n, m, hk, rfl, rfl, rfl, rfl, hn1, hm1, HU⟩ := hrel
    have hn0 : (0 : Int) ≤ (n : Int) := by omega
    have hm0 : (0 : Int) ≤ (m : Int) := by omega
    by_cases hlt : k < N
    · by_cases hn : (n : Int) ≤ 1048576
      · by_cases hm : (m : Int) ≤ 16777216
        · have Hlt : Hid (k < N) := hlt
          have hlt' : k < ps.length := by rw [HN.out]; exact hlt
          obtain ⟨bb, o, rfl, hcell⟩ := hpx (by rintro rfl; simp at hlt')
          have hpa := (hcell k hlt').up HU.out
          have hpf := HF.out _ (List.getElem_mem hlt')
          clear hcell hpx
          generalize ps[k]'hlt' = p at hpa hpf
          have HPA : Hid (OpImAt wr bb (o + k * 5) p) := hpa
          obtain ⟨vk, vB, ⟨h0, h1, h2, h3, h4⟩, hK, hs⟩ := hpa
          have hW := wide_any vk p.s.lsn p.s.floor p.s.keys wr hK (by have := hpf.len; omega)
          obtain ⟨aK, cK, rfl⟩ := hK.shape
          obtain ⟨aB, cB, rfl, _⟩ := hs
          have f1 := hpf.len
          have f2 := hpf.b
          obtain ⟨nB, hnB⟩ : ∃ nB, p.b.length = nB := ⟨_, rfl⟩
          obtain ⟨nK, hnK⟩ : ∃ nK, p.s.keys.length = nK := ⟨_, rfl⟩
          rw [hnB] at h4 f2
          rw [hnK] at h3 f1 hW
          obtain ⟨pl, hpl⟩ : ∃ pl, p.s.lsn = pl := ⟨_, rfl⟩
          obtain ⟨pf, hpf'⟩ : ∃ pf, p.s.floor = pf := ⟨_, rfl⟩
          rw [hpl] at h1 hW
          rw [hpf'] at h2 hW
          have g2 : (0 : Int) ≤ (nB : Int) := by omega
          have g1 : (0 : Int) ≤ (nK : Int) := by omega
          have hb1 : ((n + 1 + nK : Nat) : Int) ≤ 1760000000000 := by omega
          have hb2 : ((m + nB : Nat) : Int) ≤ 140737505128449 := by omega
          clear hpf hnB hnK hpl hpf' hlt' HPA hK
          have bl : bb < wr.heap.size := World.block_lt_of_cell? wr _ h0
          go_wp2_with fail
          refine hW.mono ?_
          rintro e w5 ⟨⟨q, rfl⟩, u5⟩
          have kk : ∀ j v, wr.cell? ⟨bb, j, none⟩ = some v → w5.cell? ⟨bb, j, none⟩ = some v := fun j v h => (u5.cell (p := ⟨bb, j, none⟩) bl).trans h
          replace h3 := kk _ _ h3
          replace h4 := kk _ _ h4
          have H8 : Hid (Up w w5) := HU.out.trans u5
          clear hW h0 h1 h2 kk u5 bl HU
          cases q with
          | true =>
            go_wp2
            go_ret
            exact ⟨someB _, H8.out⟩
          | false =>
            go_wp2
            go_roundg (N - (k + 1))
            case measure => have := Hlt.out; omega
            case rel => exact ⟨k + 1, n + 1 + nK, m + nB, Hlt.out, rfl, by go_num, by go_num, by go_num, hb1, hb2, H8⟩
        · have hn2 : (16777216 : Int) < (m : Int) := by omega
          have hn3 : ¬ (1048576 : Int) < (n : Int) := by omega
          have hfin := HU
          clear HU hpx
          go_wp2
          all_goals (go_ret; exact ⟨someB _, hfin.out⟩)
      · have hn2 : (1048576 : Int) < (n : Int) := by omega
        have hfin := HU
        clear HU hpx
        go_wp2
        all_goals (go_ret; exact ⟨someB _, hfin.out⟩)
    · obtain rfl : k = N := by omega
      have hfin := HU
      clear HU hlt hpx
      by_cases hn : (1048576 : Int) < (n : Int)
      · go_wp2
        all_goals (go_ret; exact ⟨someB _, hfin.out⟩)
      · go_wp2
        all_goals (go_ret; exact ⟨someB _, hfin.out⟩)

set_option maxHeartbeats 1600000 in
theorem ImageAll_any (v : Value) (ps : List OpIm) (w : World) (ad : Nat → Addr) (hk : IKA w ad) (hp : OpsImIn w v ps) (hlen : (ps.length : Int) ≤ 140737488351232) (hf : ∀ p ∈ ps, p.Fits) :
    Calls Tryd.prog 3 #[v] w fun e w' => e = .returned (.bool true) ∧ Up w w' := by
  have hp0 := hp
  obtain ⟨ao, cap, rfl, hpx⟩ := hp
  have HK : Hid (IKA w ad ∧ ∀ p ∈ ps, p.Fits) := ⟨hk, hf⟩
  go_enter Tryd.func3, Tryd.ntmps3
  go_wp2_with fail
  refine (awake_any _ ad hk.ik).mono ?_
  rintro e w1 ⟨rfl, hu1⟩
  have hp1 : OpsImIn w1 (.slice ao ps.length cap) ps := ⟨ao, cap, rfl, fun hn => by
    obtain ⟨b, o, e, h⟩ := hpx hn
    exact ⟨b, o, e, fun i hi => (h i hi).up hu1⟩⟩
  go_wp2_with fail
  refine (imuch_any _ ps _ hp1 hlen hf).mono ?_
  rintro e w2 ⟨⟨r, rfl⟩, u2⟩
  have hu2 := hu1.trans u2
  clear hp1 hp0 hk hf hu1 u2
  cases r with
  | true =>
    go_wp2
    go_ret
    exact ⟨rfl, hu2⟩
  | false =>
    go_wp2
    go_loopg [3, 4] ps.length (fun g ok i wr => ∃ k : Nat, k ≤ ps.length ∧ g = ps.length - k ∧ i = .int .i64 k ∧ ok = .bool true ∧ Up w wr)
    case atStart => exact ⟨0, by omega, rfl, rfl, rfl, hu2⟩
    case round =>
      obtain ⟨k, hk, rfl, rfl, rfl, hup⟩ := hrel
      by_cases hlt : k < ps.length
      · obtain ⟨b, o, rfl, hcell⟩ := hpx (by rintro rfl; simp at hlt)
        have hpa := (hcell k hlt).up hup
        have hpf := HK.out.2 _ (List.getElem_mem hlt)
        have Hlt : Hid (k < ps.length) := hlt
        clear hcell hpx
        generalize ps[k]'hlt = p at hpa hpf
        obtain ⟨vk, vB, ⟨h0, h1, h2, h3, h4⟩, hK, hs⟩ := hpa
        have key := iplays_any p vk vB wr ad (HK.out.1.up hup) hK hs hpf
        obtain ⟨aB, cB, rfl, _⟩ := hs
        obtain ⟨aK, cK, rfl⟩ := hK.shape
        clear hpf hK
        go_wp2_with fail
        refine key.mono ?_
        rintro e w5 ⟨rfl, hu5⟩
        have hup5 := hup.trans hu5
        clear key h0 h1 h2 h3 h4 hu5
        go_wp2
        go_roundg (ps.length - (k + 1))
        case measure => have := Hlt.out; omega
        case rel => exact ⟨k + 1, Hlt.out, rfl, by go_num, rfl, hup5⟩
      · go_wp2
        go_ret
        exact ⟨rfl, hup⟩
end Go.Proofs.YtooclofdljampaaDoor

set_option linter.unusedVariables false
namespace Go.Proofs.YtooclofdljampaaDoor
open Go Go.RowKit Go.ChangeShapes Go.WideShapes Go.Joins

theorem Tryd.icellsOp : Tryd.prog.cellsOf 32 = 5 := by kernel_rfl
theorem Tryd.ibytesOp : Tryd.prog.bytesOf 32 = 72 := by kernel_rfl
theorem Tryd.icellsBytes : Tryd.prog.cellsOf 30 = 1 := by kernel_rfl
theorem Tryd.readableIops : Tryd.prog.readableRec 22 = true := by kernel_rfl
theorem iall_part {H : Type} {P : Program} {e : TypeId} {d : DataW H} : ∀ {l : List (DataW H)}, (DataW.weightsAll P e l).all (· ≤ reachBytes) = true → d ∈ l → (DataW.weights P e d).all (· ≤ reachBytes) = true
  | [], _, h => by cases h
  | x :: r, hw, h => by
    simp only [DataW.weightsAll, List.all_append, Bool.and_eq_true] at hw
    rcases List.mem_cons.1 h with e | e
    · subst e; exact hw.1
    · exact iall_part hw.2 e

set_option maxRecDepth 20000 in
/-- A state in three cells. -/
theorem iopen_state {H : Type} {enc : TypeId × Value → H} {W : World} {n : Nat} {c0 c1 c2 : Value} {x : DataW H × List MemPlace}
    (h : DataW.trod enc Tryd.prog W 0 (fun _ => true) true n 29 [c0, c1, c2] = some x) :
    ∃ s : StV, c0 = V s.lsn ∧ c1 = V s.floor ∧ SlE W c2 s.keys ∧ St64 s ∧ (∀ e ∈ s.keys, e.1.size ≤ maxLen) ∧ ((DataW.weights Tryd.prog 29 x.1).all (· ≤ reachBytes) = true → (s.keys.length : Int) ≤ 1759218604390) := by
  obtain ⟨xs, m, _, hxp, hl, hlen, hf⟩ := DataW.trod_struct Tryd.underlying29 h
  match xs, hlen with
  | [y0, y1, y2], _ =>
    have f0 : DataW.trod enc Tryd.prog W 0 (fun _ => true) true m 26 (([c0, c1, c2].drop 0).take (Tryd.prog.cellsOf 26)) = some y0 := hf 0 _ rfl
    have f1 : DataW.trod enc Tryd.prog W 0 (fun _ => true) true m 26 (([c0, c1, c2].drop 1).take (Tryd.prog.cellsOf 26)) = some y1 := hf 1 _ rfl
    have f2 : DataW.trod enc Tryd.prog W 0 (fun _ => true) true m 27 (([c0, c1, c2].drop 2).take (Tryd.prog.cellsOf 27)) = some y2 := hf 2 _ rfl
    rw [Tryd.rcellsU64] at f0 f1
    rw [Tryd.scellsEnts] at f2
    simp at f0 f1 f2
    obtain ⟨k0, rfl, rfl, l0, _⟩ := rlit_u64 f0
    obtain ⟨k1, rfl, rfl, l1, _⟩ := rlit_u64 f1
    obtain ⟨es, hs, hee, hb⟩ := open_ents f2
    refine ⟨⟨k0, k1, es⟩, rfl, rfl, hs, ⟨l0, l1, fun e he => (hee e he).1⟩, fun e he => (hee e he).2, fun hw => ?_⟩
    have hd1 := congrArg Prod.fst hxp
    simp only at hd1
    rw [hd1] at hw
    have e : DataW.weights Tryd.prog 29 (.agg (([(.lit (.int .u64 (k0 : Int)), []), (.lit (.int .u64 (k1 : Int)), []), y2] : List (DataW H × List MemPlace)).map (·.1))) = DataW.weightsEach Tryd.prog [26, 26, 27] [.lit (.int .u64 (k0 : Int)), .lit (.int .u64 (k1 : Int)), y2.1] := by
      simp only [DataW.weights, Tryd.underlying29]
      rfl
    rw [e] at hw
    exact hb (List.all_eq_true.2 fun n hn => List.all_eq_true.1 hw n (DataW.weights_mem_each (j := 2) rfl rfl n hn))

set_option maxRecDepth 20000 in
/-- One call, read out of its five cells. -/
theorem open_iop {H : Type} {enc : TypeId × Value → H} {W : World} {b o n : Nat} {cs : List Value} {x : DataW H × List MemPlace} (hc : W.cells? 0 ⟨b, o, none⟩ 5 = some cs)
    (h : DataW.trod enc Tryd.prog W 0 (fun _ => true) true n 32 cs = some x) :
    ∃ p : OpIm, OpImAt W b o p ∧ ((DataW.weights Tryd.prog 32 x.1).all (· ≤ reachBytes) = true → p.Fits) := by
  obtain ⟨xs, m, _, rfl, hl, hlen, hf⟩ := DataW.trod_struct Tryd.underlying32 h
  rw [Tryd.icellsOp] at hl
  match cs, hl with
  | [c0, c1, c2, c3, c4], _ =>
    match xs, hlen with
    | [y0, y1, y2], _ =>
      have f0 : DataW.trod enc Tryd.prog W 0 (fun _ => true) true m 3 (([c0, c1, c2, c3, c4].drop 0).take (Tryd.prog.cellsOf 3)) = some y0 := hf 0 _ rfl
      have f1 : DataW.trod enc Tryd.prog W 0 (fun _ => true) true m 29 (([c0, c1, c2, c3, c4].drop 1).take (Tryd.prog.cellsOf 29)) = some y1 := hf 1 _ rfl
      have f2 : DataW.trod enc Tryd.prog W 0 (fun _ => true) true m 30 (([c0, c1, c2, c3, c4].drop 4).take (Tryd.prog.cellsOf 30)) = some y2 := hf 2 _ rfl
      rw [Tryd.rcellsInt] at f0
      rw [Tryd.scellsSt] at f1
      rw [Tryd.icellsBytes] at f2
      simp at f0 f1 f2
      obtain ⟨q, rfl, rfl, _, _⟩ := rlit_int f0
      obtain ⟨s, rfl, rfl, hK, h64, hsz, hkw⟩ := iopen_state f1
      have hcells : W.cell? ⟨b, o, none⟩ = some (.int .i64 q) ∧ W.cell? ⟨b, o + 1, none⟩ = some (V s.lsn) ∧ W.cell? ⟨b, o + 2, none⟩ = some (V s.floor) ∧ W.cell? ⟨b, o + 3, none⟩ = some c3 ∧ W.cell? ⟨b, o + 4, none⟩ = some c4 := by
        unfold World.cells? at hc
        rw [if_pos (Nat.zero_le _)] at hc
        have hr : List.range 5 = [0, 1, 2, 3, 4] := by decide
        rw [hr] at hc
        simp only [List.mapM_cons, List.mapM_nil, Addr.add_lit, Nat.add_zero] at hc
        simp only [Option.bind_eq_bind, Option.bind_eq_some_iff, Option.pure_def, Option.some.injEq] at hc
        obtain ⟨a0, h0, r0, ⟨a1, h1, r1, ⟨a2, h2, r2, ⟨a3, h3, r3, ⟨a4, h4, r4, g1, g2⟩, g3⟩, g4⟩, g5⟩, g6⟩ := hc
        subst g1 g2 g3 g4 g5
        simp at g6
        obtain ⟨rfl, rfl, rfl, rfl, rfl⟩ := g6
        exact ⟨h0, h1, h2, h3, h4⟩
      have hv : ∃ a n c, c4 = .slice a n c := by
        rcases DataW.trod_slice Tryd.underlying30 f2 with ⟨h, _⟩ | ⟨a, len, cap, _, _, _, _, h, _⟩
        · simp at h; exact ⟨_, _, _, h⟩
        · simp at h; exact ⟨_, _, _, h⟩
      obtain ⟨a2, n2, c2', rfl⟩ := hv
      have htr : DataW.Trod enc Tryd.prog W 0 (fun _ => true) true 30 (.slice a2 n2 c2') y2.1 y2.2 := ⟨m, by simpa [Value.cells] using f2⟩
      obtain ⟨bs, hs, hd⟩ := open_bytes ⟨_, _, _, rfl⟩ htr
      refine ⟨⟨q, s, bs⟩, ⟨_, _, hcells, hK, hs⟩, fun hw => ?_⟩
      have e : DataW.weights Tryd.prog 32 (.agg (([(.lit (.int .i64 q), []), y1, y2] : List (DataW H × List MemPlace)).map (·.1))) = DataW.weightsEach Tryd.prog [3, 29, 30] [.lit (.int .i64 q), y1.1, y2.1] := by
        simp only [DataW.weights, Tryd.underlying32]
        rfl
      rw [e] at hw
      have hb2 := bytes_bound (bs := bs) (j := 2) hw rfl rfl hd
      have hk1 := hkw (List.all_eq_true.2 fun n hn => List.all_eq_true.1 hw n (DataW.weights_mem_each (j := 1) rfl rfl n hn))
      exact ⟨h64, fun e he => by have := hsz e he; unfold maxLen at this; omega, hk1, by show (bs.length : Int) ≤ _; omega⟩

set_option maxRecDepth 20000 in
theorem open_iops {H : Type} {enc : TypeId × Value → H} {W : World} {v : Value} {d : DataW H} {p : List MemPlace} (hv : ∃ a n c, v = .slice a n c)
    (h : DataW.Trod enc Tryd.prog W 0 (fun _ => true) true 22 v d p) :
    ∃ ps, OpsImIn W v ps ∧ ((DataW.weights Tryd.prog 22 d).all (· ≤ reachBytes) = true → (ps.length : Int) ≤ 140737488351232 ∧ ∀ p ∈ ps, p.Fits) := by
  obtain ⟨a0, n0, c0, rfl⟩ := hv
  obtain ⟨fuel, hf⟩ := h
  rcases Go.Deep.open_slice Tryd.underlying22 hf with ⟨hcs, hx⟩ | ⟨a, len, cap, m, n, D, Pl, hcs, _, hl, hm, hm2, hx, hel⟩
  · simp [Value.cells] at hcs
    obtain ⟨rfl, rfl, rfl⟩ := hcs
    exact ⟨[], ⟨none, 0, rfl, fun h => absurd rfl h⟩, fun _ => ⟨by simp, fun p hp => by cases hp⟩⟩
  · simp [Value.cells] at hcs
    obtain ⟨rfl, rfl, rfl⟩ := hcs
    simp only [if_true] at hm2
    subst hm2
    simp only [Prod.mk.injEq] at hx
    obtain ⟨rfl, _⟩ := hx
    rw [Tryd.icellsOp] at hel
    by_cases hn : n0 = 0
    · subst hn
      exact ⟨[], ⟨some a, m, rfl, fun h => absurd rfl h⟩, fun _ => ⟨by simp, fun p hp => by cases hp⟩⟩
    · have hplain : a = ⟨a.block, a.off, none⟩ := by
        obtain ⟨cs', h1, _⟩ := hel 0 (by omega)
        unfold World.cells? at h1
        rw [if_pos (Nat.zero_le _)] at h1
        have hr : List.range 5 = [0, 1, 2, 3, 4] := by decide
        rw [hr] at h1
        simp only [List.mapM_cons, Option.bind_eq_bind, Option.bind_eq_some_iff] at h1
        obtain ⟨x, h2, _⟩ := h1
        have e : (a.add (0 * 5)).add 0 = a := by simp [Addr.add]
        rw [e] at h2
        exact addr_plainE h2
      have each : ∀ i, i < n0 → ∃ p : OpIm, OpImAt W a.block (a.off + i * 5) p ∧ ((DataW.weights Tryd.prog 32 (D i)).all (· ≤ reachBytes) = true → p.Fits) := by
        intro i hi
        obtain ⟨cs', h1, h2⟩ := hel i (by omega)
        rw [hplain, Addr.add_lit] at h1
        exact open_iop h1 h2
      have hch : ∃ f : Nat → OpIm, ∀ i, i < n0 → OpImAt W a.block (a.off + i * 5) (f i) ∧ ((DataW.weights Tryd.prog 32 (D i)).all (· ≤ reachBytes) = true → (f i).Fits) := by
        refine ⟨fun i => if h : i < n0 then Classical.choose (each i h) else ⟨0, ⟨0, 0, []⟩, []⟩, fun i hi => ?_⟩
        simp only [dif_pos hi]
        exact Classical.choose_spec (each i hi)
      obtain ⟨f, hf⟩ := hch
      have hlen : ((List.range n0).map f).length = n0 := by simp
      refine ⟨(List.range n0).map f, ⟨some a, m, by rw [hlen], fun _ => ⟨a.block, a.off, congrArg some hplain, ?_⟩⟩, fun hw => ?_⟩
      · intro i hi
        rw [hlen] at hi
        simpa using (hf i hi).1
      · simp only [DataW.weights, Tryd.underlying22, List.all_cons, List.all_append, Bool.and_eq_true] at hw
        obtain ⟨hw1, hw2, _⟩ := hw
        have hw1' := of_decide_eq_true hw1
        rw [Tryd.ibytesOp, List.length_map, List.length_range] at hw1'
        refine ⟨?_, ?_⟩
        · rw [hlen]
          simp only [reachBytes] at hw1'
          omega
        · intro p hp
          obtain ⟨i, hi, rfl⟩ := List.mem_map.1 hp
          have hi' := List.mem_range.1 hi
          exact (hf i hi').2 (iall_part hw2 (List.mem_map.2 ⟨i, List.mem_range.2 hi', rfl⟩))
end Go.Proofs.YtooclofdljampaaDoor
