/- segment: SegmentNames. -/
import Derived.Test.YtkfjkfpodkbkaaaGreatDoorSgRefN
import Derived.Test.YtkfjkfpodkbkaaaGreatDoorMg38
set_option linter.unusedVariables false
set_option linter.unusedSimpArgs false
namespace Go.Proofs.YtkfjkfpodkbkaaaGreatDoor
open Go Go.RowKit

theorem fst_one {nm : List UInt8} {n n' : Nat} {b b' : Bool} (h1 : b = true → nm = nameB n ∧ 1 ≤ n ∧ n ≤ 4611686018427387904) (h2 : b = false → n = 0 ∧ ∀ x, 1 ≤ x → x ≤ 4611686018427387904 → nm ≠ nameB x)
    (k1 : b' = true → nm = nameB n' ∧ 1 ≤ n' ∧ n' ≤ 4611686018427387904) (k2 : b' = false → n' = 0 ∧ ∀ x, 1 ≤ x → x ≤ 4611686018427387904 → nm ≠ nameB x) : n' = n ∧ b' = b := by
  cases b <;> cases b'
  · exact ⟨by rw [(h2 rfl).1, (k2 rfl).1], rfl⟩
  · obtain ⟨q1, q2, q3⟩ := k1 rfl
    exact ((h2 rfl).2 n' q2 q3 q1).elim
  · obtain ⟨q1, q2, q3⟩ := h1 rfl
    exact ((k2 rfl).2 n q2 q3 q1).elim
  · obtain ⟨q1, q2, q3⟩ := h1 rfl
    obtain ⟨r1, r2, r3⟩ := k1 rfl
    exact ⟨name_unique n' n (by omega) (by omega) (by rw [← r1, ← q1]), rfl⟩
theorem fst_name {x n : Nat} {b : Bool} (hx : x < 18446744073709551616) (h1 : b = true → nameB x = nameB n ∧ 1 ≤ n ∧ n ≤ 4611686018427387904) (h2 : b = false → n = 0 ∧ ∀ y, 1 ≤ y → y ≤ 4611686018427387904 → nameB x ≠ nameB y) :
    (1 ≤ x → x ≤ 4611686018427387904 → n = x ∧ b = true) ∧ ((x < 1 ∨ 4611686018427387904 < x) → n = 0 ∧ b = false) := by
  cases b
  · exact ⟨fun q1 q2 => ((h2 rfl).2 x q1 q2 rfl).elim, fun _ => ⟨(h2 rfl).1, rfl⟩⟩
  · obtain ⟨q1, q2, q3⟩ := h1 rfl
    have := name_unique x n hx (by omega) q1
    exact ⟨fun _ _ => ⟨this.symm, rfl⟩, fun h => by omega⟩

set_option maxRecDepth 20000 in
set_option maxHeartbeats 1600000 in
theorem SegmentNames_any (x : Nat) (nm : List UInt8) (w : World) (ad : Nat → Addr) (hk : Ks w ad) (hs : Sx w) (hx : x < 18446744073709551616) (hl : nm.length ≤ 281474976710656) :
    Calls Tryz.prog 3 #[.int .u64 (x : Int), Sv nm] w fun e w' => e = .returned (.bool true) ∧ Up w w' := by
  have haw := sawake_any w ad hk
  have HV : Hid (∀ u, Up w u → Ks u ad ∧ Sx u) := fun u hu => ⟨hk.up hu, hs.up hu⟩
  have HX : Hid (x < 18446744073709551616 ∧ nm.length ≤ 281474976710656) := ⟨hx, hl⟩
  clear hk hs hx hl
  go_enter Tryz.func3, Tryz.ntmps3
  go_wp2_with fail
  refine haw.mono ?_
  rintro e w1 ⟨rfl, u1⟩
  clear haw
  have h1 := First_any nm w1 (HV.out w1 u1).2 (HV.out w1 u1).1.tz HX.out.2
  go_wp2_with fail
  refine h1.mono ?_
  rintro e w2 ⟨⟨n, b, rfl, p1, p2⟩, u2⟩
  clear h1
  have U2 := u1.trans u2
  have h2 := rFirst_any nm w2
  go_wp2_with fail
  refine h2.mono ?_
  rintro e w3 ⟨⟨n', b', rfl, r1, r2⟩, hw3⟩
  obtain rfl : w2 = w3 := hw3.symm
  clear h2
  obtain ⟨hn, hb⟩ := fst_one p1 p2 r1 r2
  rw [hn, hb]
  have HP : Hid ((b = true → nm = nameB n ∧ 1 ≤ n ∧ n ≤ 4611686018427387904) ∧ (b = false → n = 0 ∧ ∀ x, 1 ≤ x → x ≤ 4611686018427387904 → nm ≠ nameB x)) := ⟨p1, p2⟩
  clear hn hb p1 p2 r1 r2
  have h3 := Name_any x w2 HX.out.1 (HV.out w2 U2).1.tz
  go_wp2_with fail
  refine h3.mono ?_
  rintro e w4 ⟨rfl, u4⟩
  clear h3
  have U4 := U2.trans u4
  have h4 := First_any (nameB x) w4 (HV.out w4 U4).2 (HV.out w4 U4).1.tz (by rw [nameB_length x HX.out.1]; omega)
  go_wp2_with fail
  refine h4.mono ?_
  rintro e w5 ⟨⟨n5, b5, rfl, p1, p2⟩, u5⟩
  clear h4
  have U5 := U4.trans u5
  have HF : Hid ((1 ≤ x → x ≤ 4611686018427387904 → n5 = x ∧ b5 = true) ∧ ((x < 1 ∨ 4611686018427387904 < x) → n5 = 0 ∧ b5 = false)) := fst_name HX.out.1 p1 p2
  clear p1 p2
  have h5 := Name_any x w5 HX.out.1 (HV.out w5 U5).1.tz
  obtain ⟨NX, hNX⟩ : ∃ NX, nameB x = NX := ⟨_, rfl⟩
  have H6 : Hid (∀ u, Calls Tryz.prog 12 #[.int .u64 (x : Int)] u fun e w' => e = .returned (Sv NX) ∧ Up u w') := fun u => by rw [← hNX]; exact rName_any x u HX.out.1
  rw [hNX] at h5
  clear hNX
  have HU : Hid (Up w w5) := U5
  clear u1 u2 u4 u5 U2 U4 U5
  have x0 : (0 : Int) ≤ (x : Int) := by omega
  have fin : ∀ u, Hid (Up w u) → (x < 1 ∨ 4611686018427387904 < x) ∨ (1 ≤ x ∧ x ≤ 4611686018427387904) := fun _ _ => by omega
  clear fin
  cases b with
  | false =>
    obtain rfl : n = 0 := (HP.out.2 rfl).1
    rcases Nat.lt_or_ge x 1 with c1 | c1
    · obtain ⟨q1, q2⟩ := HF.out.2 (.inl c1)
      subst q1 q2
      have g1 : decide ((x : Int) < 1) = true := by simp; omega
      clear c1 HF
      go_wp2_with fail
      refine h5.mono ?_
      rintro e w6 ⟨rfl, u6⟩
      clear h5
      go_wp2_with fail
      refine (H6.out w6).mono ?_
      rintro e w7 ⟨rfl, u7⟩
      go_wp2
      go_ret
      exact ⟨rfl, (HU.out.trans u6).trans u7⟩
    · rcases Nat.lt_or_ge 4611686018427387904 x with c2 | c2
      · obtain ⟨q1, q2⟩ := HF.out.2 (.inr c2)
        subst q1 q2
        have g1 : decide ((x : Int) < 1) = false := by simp; omega
        have g2 : decide ((4611686018427387904 : Int) < (x : Int)) = true := by simp; omega
        clear c1 c2 HF
        go_wp2_with fail
        refine h5.mono ?_
        rintro e w6 ⟨rfl, u6⟩
        clear h5
        go_wp2_with fail
        refine (H6.out w6).mono ?_
        rintro e w7 ⟨rfl, u7⟩
        go_wp2
        go_ret
        exact ⟨rfl, (HU.out.trans u6).trans u7⟩
      · obtain ⟨q1, q2⟩ := HF.out.1 c1 c2
        subst q1 q2
        have g1 : decide ((n5 : Int) < 1) = false := by simp; omega
        have g2 : decide ((4611686018427387904 : Int) < (n5 : Int)) = false := by simp; omega
        clear c1 c2 HF
        go_wp2_with fail
        refine h5.mono ?_
        rintro e w6 ⟨rfl, u6⟩
        clear h5
        go_wp2_with fail
        refine (H6.out w6).mono ?_
        rintro e w7 ⟨rfl, u7⟩
        go_wp2
        go_ret
        exact ⟨rfl, (HU.out.trans u6).trans u7⟩
  | true =>
    obtain ⟨hnm, hn1, hn2⟩ := HP.out.1 rfl
    have H7 : Hid (∀ u, Up w u → Calls Tryz.prog 11 #[.int .u64 (n : Int)] u fun e w' => e = .returned (Sv nm) ∧ Up u w') := fun u hu => by rw [hnm]; exact Name_any n u (by omega) (HV.out u hu).1.tz
    clear hnm hn1 hn2
    rcases Nat.lt_or_ge x 1 with c1 | c1
    · obtain ⟨q1, q2⟩ := HF.out.2 (.inl c1)
      subst q1 q2
      have g1 : decide ((x : Int) < 1) = true := by simp; omega
      clear c1 HF
      go_wp2_with fail
      refine h5.mono ?_
      rintro e w6 ⟨rfl, u6⟩
      clear h5
      go_wp2_with fail
      refine (H6.out w6).mono ?_
      rintro e w7 ⟨rfl, u7⟩
      have U7 : Up w w7 := (HU.out.trans u6).trans u7
      have h8 := H7.out w7 U7
      go_wp2_with fail
      refine h8.mono ?_
      rintro e w8 ⟨rfl, u8⟩
      clear h8
      go_wp2
      go_ret
      exact ⟨rfl, U7.trans u8⟩
    · rcases Nat.lt_or_ge 4611686018427387904 x with c2 | c2
      · obtain ⟨q1, q2⟩ := HF.out.2 (.inr c2)
        subst q1 q2
        have g1 : decide ((x : Int) < 1) = false := by simp; omega
        have g2 : decide ((4611686018427387904 : Int) < (x : Int)) = true := by simp; omega
        clear c1 c2 HF
        go_wp2_with fail
        refine h5.mono ?_
        rintro e w6 ⟨rfl, u6⟩
        clear h5
        go_wp2_with fail
        refine (H6.out w6).mono ?_
        rintro e w7 ⟨rfl, u7⟩
        have U7 : Up w w7 := (HU.out.trans u6).trans u7
        have h8 := H7.out w7 U7
        go_wp2_with fail
        refine h8.mono ?_
        rintro e w8 ⟨rfl, u8⟩
        clear h8
        go_wp2
        go_ret
        exact ⟨rfl, U7.trans u8⟩
      · obtain ⟨q1, q2⟩ := HF.out.1 c1 c2
        subst q1 q2
        have g1 : decide ((n5 : Int) < 1) = false := by simp; omega
        have g2 : decide ((4611686018427387904 : Int) < (n5 : Int)) = false := by simp; omega
        clear c1 c2 HF
        go_wp2_with fail
        refine h5.mono ?_
        rintro e w6 ⟨rfl, u6⟩
        clear h5
        go_wp2_with fail
        refine (H6.out w6).mono ?_
        rintro e w7 ⟨rfl, u7⟩
        have U7 : Up w w7 := (HU.out.trans u6).trans u7
        have h8 := H7.out w7 U7
        go_wp2_with fail
        refine h8.mono ?_
        rintro e w8 ⟨rfl, u8⟩
        clear h8
        go_wp2
        go_ret
        exact ⟨rfl, U7.trans u8⟩
end Go.Proofs.YtkfjkfpodkbkaaaGreatDoor
