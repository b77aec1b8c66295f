/- image: ImageBack. Own work. -/
import Derived.Test.YtooclofdljampaaDoorImLaw2
set_option linter.unusedVariables false
set_option linter.unusedSimpArgs false
namespace Go.Proofs.YtooclofdljampaaDoor
open Go Go.RowKit

theorem imgB_small {s : StV} (h : okS s = true) : (imgB s).length ≤ 500000 := by
  have hO := (okS_iff s).1 h
  rw [imgB_length]
  have := keysB_len s.keys fun x hx => (hO.each x hx).2.1
  have := hO.len
  omega

set_option maxRecDepth 20000 in
set_option maxHeartbeats 3200000 in
theorem ImageBack_any (v : Value) (l f : Nat) (xs : List Ent) (w : World) (ad : Nat → Addr) (hk : IKn w ad) (h : SlE w v xs) (hl : xs.length ≤ 1759218604390) (h64 : St64 ⟨l, f, xs⟩) :
    Calls Tryd.prog 4 #[.agg #[V l, V f, v]] w fun e w' => e = .returned (.bool true) ∧ Up w w' := by
  have HK : Hid (IKn w ad) := hk
  have HS : Hid (SlE w v xs ∧ xs.length ≤ 1759218604390 ∧ St64 ⟨l, f, xs⟩) := ⟨h, hl, h64⟩
  obtain ⟨ao, cap, rfl⟩ := h.shape
  obtain ⟨N, hN⟩ : ∃ N, xs.length = N := ⟨_, rfl⟩
  rw [hN] at HS ⊢
  have HN : Hid (xs.length = N) := hN
  have b0 : Box (w.alloc (.cells #[V l, V f, .slice ao N cap] 29)) w.heap.size #[V l, V f, .slice ao N cap] := Box.new _ _ _
  have u0 : Up w (w.alloc (.cells #[V l, V f, .slice ao N cap] 29)) := Up.alloc _ _
  clear hk h hl h64 hN
  go_enter Tryd.func4, Tryd.ntmps4
  go_upto_region 1 with fail
  generalize w.alloc (.cells #[V l, V f, .slice ao N cap] 29) = w0 at *
  generalize w.heap.size = B at *
  go_wp2_with fail
  refine (awake_any w0 ad (HK.out.up u0)).mono ?_
  rintro e w1 ⟨rfl, u1⟩
  replace u0 := u0.trans u1
  replace b0 := b0.up u1
  clear u1
  obtain ⟨c0, c1, c2⟩ := b0.c3
  go_wp2_with fail
  refine (wide_any _ l f xs _ (HS.out.1.up u0) (by rw [HN.out]; exact HS.out.2.1)).mono ?_
  rintro e w2 ⟨⟨q, rfl⟩, u1⟩
  replace u0 := u0.trans u1
  replace b0 := b0.up u1
  clear u1 c0 c1 c2
  obtain ⟨c0, c1, c2⟩ := b0.c3
  cases q with
  | true =>
    go_wp2
    go_ret
    exact ⟨rfl, u0⟩
  | false =>
    go_wp2_with fail
    refine (copied_any _ l f xs _ (HS.out.1.up u0) (by rw [HN.out]; exact HS.out.2.1)).mono ?_
    rintro e w3 ⟨v3, rfl, o3, u1⟩
    replace u0 := u0.trans u1
    replace b0 := b0.up u1
    clear u1 c0 c1 c2
    obtain ⟨c0, c1, c2⟩ := b0.c3
    cases hok : okS ⟨l, f, xs⟩ with
    | false =>
      have hE := Encode_no v3 l f xs w3 (ad 0) (HK.out.up u0).gA o3.sl (by have := HN.out; have := HS.out.2.1; omega) hok
      have HO : Hid (okS ⟨l, f, xs⟩ = false) := hok
      obtain ⟨a3, n3, k3, rfl⟩ : ∃ a n c, v3 = .slice a n c := by obtain ⟨a, c, e⟩ := o3.shape; exact ⟨_, _, _, e⟩
      clear hok o3
      go_wp2_with fail
      refine hE.mono ?_
      rintro e w4 ⟨rfl, u1⟩
      replace u0 := u0.trans u1
      replace b0 := b0.up u1
      clear u1 c0 c1 c2 hE
      obtain ⟨c0, c1, c2⟩ := b0.c3
      go_wp2_with fail
      refine (copied_any _ l f xs _ (HS.out.1.up u0) (by rw [HN.out]; exact HS.out.2.1)).mono ?_
      rintro e w5 ⟨v5, rfl, o5, u1⟩
      replace u0 := u0.trans u1
      replace b0 := b0.up u1
      clear u1 c0 c1 c2
      have hV := Valid_any v5 l f xs w5 o5.sl (by have := HN.out; have := HS.out.2.1; omega)
      rw [HO.out] at hV
      obtain ⟨a5, n5, k5, rfl⟩ : ∃ a n c, v5 = .slice a n c := by obtain ⟨a, c, e⟩ := o5.shape; exact ⟨_, _, _, e⟩
      clear o5
      go_wp2_with fail
      refine hV.mono ?_
      rintro e w6 ⟨rfl, u1⟩
      replace u0 := u0.trans u1
      have ge := (HK.out.up u0).gA.cell
      have hq := fun u => eq_same (ad 0) u
      clear hV u1 b0
      go_wp2
      go_ret
      exact ⟨rfl, u0⟩
    | true =>
      have hE := Encode_ok v3 l f xs w3 o3.sl (HK.out.up u0).tb HS.out.2.2 hok
      have HO : Hid (okS ⟨l, f, xs⟩ = true) := hok
      have HL : Hid ((imgB ⟨l, f, xs⟩).length ≤ 500000 ∧ decI (imgB ⟨l, f, xs⟩) = .ok ⟨l, f, xs⟩) := ⟨imgB_small hok, decI_img hok HS.out.2.2⟩
      obtain ⟨a3, n3, k3, rfl⟩ : ∃ a n c, v3 = .slice a n c := by obtain ⟨a, c, e⟩ := o3.shape; exact ⟨_, _, _, e⟩
      generalize imgB ⟨l, f, xs⟩ = IMG at hE HL
      clear hok o3
      go_wp2_with fail
      refine hE.mono ?_
      rintro e w4 ⟨v4, rfl, o4, u1⟩
      replace u0 := u0.trans u1
      replace b0 := b0.up u1
      clear u1 c0 c1 c2 hE
      obtain ⟨c0, c1, c2⟩ := b0.c3
      go_wp2_with fail
      refine (copied_any _ l f xs _ (HS.out.1.up u0) (by rw [HN.out]; exact HS.out.2.1)).mono ?_
      rintro e w5 ⟨v5, rfl, o5, u1⟩
      replace u0 := u0.trans u1
      replace b0 := b0.up u1
      have o6 := own_up o4 u1
      clear u1 c0 c1 c2 o4
      have hV := Valid_any v5 l f xs w5 o5.sl (by have := HN.out; have := HS.out.2.1; omega)
      rw [HO.out] at hV
      obtain ⟨a5, n5, k5, rfl⟩ : ∃ a n c, v5 = .slice a n c := by obtain ⟨a, c, e⟩ := o5.shape; exact ⟨_, _, _, e⟩
      clear o5
      go_wp2_with fail
      refine hV.mono ?_
      rintro e w6 ⟨rfl, u1⟩
      replace u0 := u0.trans u1
      replace b0 := b0.up u1
      have o7 := own_up o6 u1
      clear u1 hV o6
      have K1 := HK.out.up u0
      have hD := Decode_any (own_z o7) (by have := HL.out.1; omega) K1.tb K1.gS K1.gF K1.gU
      rw [HL.out.2] at hD
      obtain ⟨a7, n7, k7, rfl⟩ : ∃ a n c, v4 = .slice a n c := by obtain ⟨ao, c, e, _⟩ := o7.sl; exact ⟨_, _, _, e⟩
      clear o7 K1
      go_wp2_with fail
      refine hD.mono ?_
      rintro e w7 ⟨⟨vk, rfl, ok⟩, u1⟩
      simp only at ok
      replace u0 := u0.trans u1
      replace b0 := b0.up u1
      clear u1 hD
      have sk := ok.sl
      obtain ⟨ak, nk, ck, rfl⟩ : ∃ a n c, vk = .slice a n c := by obtain ⟨a, c, e⟩ := ok.shape; exact ⟨_, _, _, e⟩
      have u4 : Up w7 (w7.alloc (.cells #[V l, V f, .slice ak nk ck] 29)) := Up.alloc _ _
      have N4 : Box (w7.alloc (.cells #[V l, V f, .slice ak nk ck] 29)) w7.heap.size #[V l, V f, .slice ak nk ck] := Box.new _ _ _
      have B4 := b0.up u4
      have hA := alike_self (.slice ak nk ck) (.slice ao N cap) l f xs _ (sk.up u4) (HS.out.1.up (u0.trans u4)) (by have := HN.out; have := HS.out.2.1; omega)
      obtain ⟨c0, c1, c2⟩ := B4.c3
      obtain ⟨d0, d1, d2⟩ := N4.c3
      clear b0 ok sk B4 N4
      go_wp2_with fail
      refine hA.mono ?_
      rintro e w8 ⟨rfl, u5⟩
      go_wp2
      go_ret
      exact ⟨rfl, (u0.trans u4).trans u5⟩
end Go.Proofs.YtooclofdljampaaDoor
