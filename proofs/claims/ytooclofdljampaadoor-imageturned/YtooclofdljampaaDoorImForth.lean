/- image: ImageForth. Own work. -/
import Derived.Test.YtooclofdljampaaDoorImLaw2
set_option linter.unusedVariables false
set_option linter.unusedSimpArgs false
namespace Go.Proofs.YtooclofdljampaaDoor
open Go Go.RowKit

/-- The error of a fault. -/
def gIm : ImE → Nat
  | .short => 1
  | .form => 2
  | .sum => 3
theorem gIm_mem (x : ImE) : gIm x ∈ imErrs := by cases x <;> decide
theorem DecP.err {base : Nat} {w : World} {ad : Nat → Addr} {e : Ending} {x : ImE} (h : DecP base w (ad 1) (ad 2) (ad 3) e (.error x)) : e = .returned (.tuple #[S0, E (ad (gIm x))]) := by
  cases x <;> exact h
theorem IKn.dec {w : World} {ad : Nat → Addr} (h : IKn w ad) {base : Nat} {v : Value} {bs : List UInt8} (hs : Sl base w v bs) (hl : bs.length ≤ 140737488351232) :
    Calls Tryd.prog 16 #[v] w fun e w' => DecP w.heap.size w' (ad 1) (ad 2) (ad 3) e (decI bs) ∧ Up w w' :=
  Decode_any hs hl h.tb h.gS h.gF h.gU

set_option maxRecDepth 20000 in
set_option maxHeartbeats 3200000 in
theorem ImageForth_any (base : Nat) (v : Value) (bs : List UInt8) (w : World) (ad : Nat → Addr) (hk : IKn w ad) (h : Sl base w v bs) (hl : bs.length ≤ 140737488351232) :
    Calls Tryd.prog 5 #[v] w fun e w' => e = .returned (.bool true) ∧ Up w w' := by
  have HK : Hid (IKn w ad) := hk
  have HS : Hid (Sl base w v bs ∧ bs.length ≤ 140737488351232) := ⟨h, hl⟩
  obtain ⟨ao, cap, rfl, _⟩ := h
  obtain ⟨N, hN⟩ : ∃ N, bs.length = N := ⟨_, rfl⟩
  have HN : Hid (bs.length = N) := hN
  rw [hN] at HS ⊢
  have hl1 : (N : Int) ≤ 140737488351232 := by omega
  clear hk hN hl
  go_enter Tryd.func5, Tryd.ntmps5
  go_wp2_with fail
  refine (awake_any w ad HK.out).mono ?_
  rintro e w1 ⟨rfl, u0⟩
  by_cases h24 : (16777216 : Int) < (N : Int)
  · go_wp2
    go_ret
    exact ⟨rfl, u0⟩
  · have hb : w1.heap.size ≤ (w1.alloc (.cells #[] 5)).heap.size := by simp
    have hN2 : N ≤ 16777216 := by omega
    have HN2 : Hid (N ≤ 16777216) := hN2
    clear hN2
    go_wp2_with (at_builtin; refine wpList_bytesR_any _ rfl (.tmp 19) (.tmp 20) rfl w1.heap.size base _ _ [] bs rfl rfl (own_none w1) ?hs hb ?hl ?_)
    case hs => exact (HS.out.1.up u0).up (Up.alloc _ _)
    case hl => have := HN.out; have := HN2.out; simp only [List.length_nil]; omega
    intro v2 w2 o2 g2
    have U2 : Up w w2 := grownR_up (u0.trans (Up.alloc w1 (.cells #[] 5))) (own_none w1) u0.size g2
    have K2 := HK.out.up U2
    have hD := K2.dec (own_z o2) (by have := HN.out; have := HN2.out; omega)
    obtain ⟨a2, n2, c2, rfl⟩ : ∃ a n c, v2 = .slice a n c := by obtain ⟨ao, c, e, _⟩ := o2.sl; exact ⟨_, _, _, e⟩
    clear g2 o2 hb
    cases hd : decI bs with
    | error x =>
      rw [hd] at hD
      go_wp2_with fail
      refine hD.mono ?_
      rintro e w3 ⟨hE, u3⟩
      obtain rfl := hE.err
      have U3 := U2.trans u3
      have K3 := HK.out.up U3
      have u4 : Up w3 (w3.alloc (.cells #[V 0, V 0, .slice none 0 0] 29)) := Up.alloc _ _
      have N4 : Box (w3.alloc (.cells #[V 0, V 0, .slice none 0 0] 29)) w3.heap.size #[V 0, V 0, .slice none 0 0] := Box.new _ _ _
      obtain ⟨d0, d1, d2⟩ := N4.c3
      have hz := empty_zero (w3.alloc (.cells #[V 0, V 0, .slice none 0 0] 29))
      clear hE hD K2 N4 hd
      go_wp2_with fail
      refine hz.mono ?_
      rintro e w5 ⟨rfl, u5⟩
      have U5 := (U3.trans u4).trans u5
      have K5 := HK.out.up U5
      have cS := K5.gS.cell
      have cF := K5.gF.cell
      have cU := K5.gU.cell
      clear hz d0 d1 d2 K3
      cases x with
      | short =>
        have e1 := eq_same (ad 1) w5
        simp only [gIm]
        go_wp2
        go_ret
        exact ⟨rfl, U5⟩
      | form =>
        have e1 := K5.ne 2 1 (by decide) (by decide) (by decide)
        have e2 := eq_same (ad 2) w5
        simp only [gIm]
        go_wp2
        go_ret
        exact ⟨rfl, U5⟩
      | sum =>
        have e1 := K5.ne 3 1 (by decide) (by decide) (by decide)
        have e2 := K5.ne 3 2 (by decide) (by decide) (by decide)
        have e3 := eq_same (ad 3) w5
        simp only [gIm]
        go_wp2
        go_ret
        exact ⟨rfl, U5⟩
    | ok s =>
      obtain ⟨l, f, xs⟩ := s
      obtain ⟨hb, hok, h64⟩ := decI_inv hd
      have HX : Hid (bs = imgB ⟨l, f, xs⟩ ∧ okS ⟨l, f, xs⟩ = true ∧ St64 ⟨l, f, xs⟩ ∧ xs.length ≤ 4096) := ⟨hb, hok, h64, ((okS_iff _).1 hok).len⟩
      rw [hd] at hD
      clear hb hok h64 hd
      go_wp2_with fail
      refine hD.mono ?_
      rintro e w3 ⟨⟨vk, rfl, ok⟩, u3⟩
      simp only at ok
      have U3 := U2.trans u3
      have sk := ok.sl
      obtain ⟨ak, nk, ck, rfl⟩ : ∃ a n c, vk = .slice a n c := by obtain ⟨a, c, e⟩ := ok.shape; exact ⟨_, _, _, e⟩
      have u4 : Up w3 (w3.alloc (.cells #[V l, V f, .slice ak nk ck] 29)) := Up.alloc _ _
      have N4 : Box (w3.alloc (.cells #[V l, V f, .slice ak nk ck] 29)) w3.heap.size #[V l, V f, .slice ak nk ck] := Box.new _ _ _
      have U4 := U3.trans u4
      have sk4 := sk.up u4
      clear hD ok u3 U3 K2 sk
      obtain ⟨d0, d1, d2⟩ := N4.c3
      go_wp2_with fail
      refine (copied_any _ l f xs _ sk4 (by have := HX.out.2.2.2; omega)).mono ?_
      rintro e w5 ⟨v5, rfl, o5, u5⟩
      have U5 := U4.trans u5
      have N5 := N4.up u5
      have s5 := sk4.up u5
      have hE := Encode_ok v5 l f xs w5 o5.sl (HK.out.up U5).tb HX.out.2.2.1 HX.out.2.1
      rw [← HX.out.1] at hE
      obtain ⟨a5, n5, k5, rfl⟩ : ∃ a n c, v5 = .slice a n c := by obtain ⟨a, c, e⟩ := o5.shape; exact ⟨_, _, _, e⟩
      clear d0 d1 d2 N4 o5 u5 sk4
      obtain ⟨d0, d1, d2⟩ := N5.c3
      go_wp2_with fail
      refine hE.mono ?_
      rintro e w6 ⟨v6, rfl, o6, u6⟩
      have U6 := U5.trans u6
      have N6 := N5.up u6
      have hV := Valid_any (.slice ak nk ck) l f xs w6 (s5.up u6) (by have := HX.out.2.2.2; omega)
      rw [HX.out.2.1] at hV
      obtain ⟨a6, c6, n6, rfl⟩ : ∃ a n c, v6 = .slice a n c := by obtain ⟨ao, c, e, _⟩ := o6.sl; exact ⟨_, _, _, e⟩
      clear d0 d1 d2 N5 u6 hE s5
      obtain ⟨d0, d1, d2⟩ := N6.c3
      go_wp2_with fail
      refine hV.mono ?_
      rintro e w7 ⟨rfl, u7⟩
      have U7 := U6.trans u7
      have hQ := rsame_any base 0 _ _ bs bs w7 (HS.out.1.up U7) ((own_z o6).up u7) (by have := HN.out; have := HN2.out; omega) (by have := HN.out; have := HN2.out; omega)
      rw [decide_eq_true rfl] at hQ
      clear hV o6 d0 d1 d2 N6
      go_wp2_with fail
      refine hQ.mono ?_
      rintro e w8 ⟨rfl, hw8⟩
      go_wp2
      go_ret
      exact ⟨rfl, U7.trans (drewR_up hw8)⟩
end Go.Proofs.YtooclofdljampaaDoor
