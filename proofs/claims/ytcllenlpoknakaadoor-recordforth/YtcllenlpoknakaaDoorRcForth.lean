/- record: the law RecordForth. -/
import Derived.Test.YtcllenlpoknakaaDoorRcLaw
set_option linter.unusedVariables false
set_option linter.unusedSimpArgs false
namespace Go.Proofs.YtcllenlpoknakaaDoor
open Go Go.RowKit

set_option maxRecDepth 20000 in
set_option maxHeartbeats 1600000 in
theorem RecordForth_any (base : Nat) (v : Value) (b : List UInt8) (w : World) (ad : Nat → Addr) (hk : RKn w ad) (hs : Sl base w v b) (hl : b.length ≤ 140737488351232) :
    Calls Tryd.prog 5 #[v] w fun e w' => e = .returned (.bool true) ∧ Up w w' := by
  have hs0 := hs
  have hs1 := hs
  obtain ⟨ao, cap, rfl, _⟩ := hs1
  obtain ⟨N, hN⟩ : ∃ N, b.length = N := ⟨_, rfl⟩
  have HN : Hid (b.length = N) := hN
  have HL : Hid (b.length ≤ 140737488351232) := hl
  rw [hN] at hs hs0 ⊢
  clear hN hl
  have HS : Hid (Sl base w (.slice ao N cap) b) := hs0
  clear hs hs0
  go_enter Tryd.func5, Tryd.ntmps5
  go_wp2_with fail
  refine (rawake_any _ ad hk).mono ?_
  rintro e w1 ⟨rfl, u1⟩
  have s1 := (HS.out.up u1).up (Up.alloc w1 (.cells #[] 5))
  go_wp2_with (at_builtin; refine wpList_bytesR_any _ rfl (.tmp 13) (.tmp 14) rfl w1.heap.size base _ _ [] b rfl rfl (own_none w1) s1 ?hb ?hl ?_)
  case hb => simp
  case hl => have := HL.out; simp; omega
  intro v2 w2 o2 g2
  have U2 : Up w w2 := grownR_up (u1.trans (Up.alloc _ _)) (own_none w1) u1.size g2
  clear s1 g2 u1
  have hD := RDecode_any 0 v2 b w2 _ _ (own_sl0 o2) HL.out (hk.up U2).gS (hk.up U2).gF
  go_wp2_with fail
  refine hD.mono ?_
  rintro e w3 ⟨hT, u3⟩
  have U3 := U2.trans u3
  clear hD U2 u3 o2
  have K3 := hk.up U3
  cases hd : decR b with
  | error er =>
    rw [hd] at hT
    have cS := K3.gS.cell
    have cF := K3.gF.cell
    have gSl := K3.gS.lt
    have gFl := K3.gF.lt
    have hq := zero_eq
    cases er with
    | short =>
      obtain rfl := hT
      have es := eq_same (ad 1)
      clear K3 hk hd
      go_wp2
      go_ret
      exact ⟨rfl, U3.trans (Up.alloc _ _)⟩
    | form =>
      obtain rfl := hT
      have es := eq_same (ad 2)
      have en := (hk.up (U3.trans (Up.alloc w3 (.cells Zs 32)))).ne 2 1 (by simp) (by simp) (by decide)
      clear K3 hk hd
      go_wp2
      go_ret
      exact ⟨rfl, U3.trans (Up.alloc _ _)⟩
  | ok r =>
    rw [hd] at hT
    obtain rfl := hT
    obtain ⟨hv, hf, he⟩ := enc_dec hd
    have hE := fun w => Encode_ok r w hf hv
    rw [he] at hE
    have hV := RValid_any r
    rw [decide_eq_true hv] at hV
    have HE := show Hid _ from hE
    have HV := show Hid _ from hV
    clear hE hV hv hf he hd hk
    obtain ⟨k, f, key, pk, g, s, l, p, t, i, c⟩ := r
    simp only [RV] at HE HV ⊢
    obtain ⟨S, hS⟩ : ∃ S : ByteArray, (⟨key.toArray⟩ : ByteArray) = S := ⟨_, rfl⟩
    rw [hS] at HE HV ⊢
    clear hS
    have b3 : Box (w3.alloc (.cells #[.int .i64 k, V f, .string S, .int .i64 pk, V g, V s, V l, V p, V t, V i, V c] 32)) w3.heap.size #[.int .i64 k, V f, .string S, .int .i64 pk, V g, V s, V l, V p, V t, V i, V c] := Box.new _ _ _
    have U4 := U3.trans (Up.alloc w3 (.cells #[.int .i64 k, V f, .string S, .int .i64 pk, V g, V s, V l, V p, V t, V i, V c] 32))
    clear K3 U3
    go_wp2_with fail
    refine (HE.out _).mono ?_
    rintro e w5 ⟨v5, rfl, o5, u5⟩
    have b5 := b3.up u5
    have U5 := U4.trans u5
    have s5 := own_sl0 o5
    have s5' := s5
    obtain ⟨a5, q5, rfl, _⟩ := s5'
    rw [HN.out] at s5 ⊢
    clear b3 u5 U4 HE o5
    obtain ⟨c0, c1, c2, c3, c4, c5, c6, c7, c8, c9, c10⟩ := b5.c11
    go_wp2_with fail
    refine (HV.out _).mono ?_
    rintro e w6 ⟨rfl, u6⟩
    have U6 := U5.trans u6
    have hsame := rsame_any base 0 _ _ b b w6 (HS.out.up U6) (s5.up u6) (by have := HL.out; omega) (by have := HL.out; omega)
    rw [decide_eq_true rfl] at hsame
    clear HV b5 U5 u6 s5 c0 c1 c2 c3 c4 c5 c6 c7 c8 c9 c10
    go_wp2_with fail
    refine hsame.mono ?_
    rintro e w7 ⟨rfl, h7⟩
    have U7 := U6.trans (drewR_up h7)
    clear hsame h7 U6
    go_wp2
    go_ret
    exact ⟨rfl, U7⟩
end Go.Proofs.YtcllenlpoknakaaDoor
