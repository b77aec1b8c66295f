/- The reference's reader of layer 1: Number. -/
import Derived.Test.YtpjpjoefmnnpmaaDoorRefRd3
set_option linter.unusedVariables false
namespace Go.Proofs.YtpjpjoefmnnpmaaDoor
open Go Go.RowKit

def un128 : List UInt8 → Nat
  | [] => 0
  | c :: r => c.toNat % 128 + 128 * un128 r

theorem un128_lt (l : List UInt8) : un128 l < 128 ^ l.length := by
  induction l with
  | nil => simp [un128]
  | cons c r ih =>
    have : c.toNat % 128 < 128 := Nat.mod_lt _ (by omega)
    simp only [un128, List.length_cons, Nat.pow_succ]
    omega
theorem un128_snoc (l : List UInt8) (c : UInt8) : un128 (l ++ [c]) = un128 l + 128 ^ l.length * (c.toNat % 128) := by
  induction l with
  | nil => simp [un128]
  | cons d r ih => simp only [List.cons_append, un128, ih, List.length_cons, Nat.pow_succ]; rw [Nat.mul_add, Nat.add_assoc, Nat.mul_comm (128 ^ r.length) 128, Nat.mul_assoc]

theorem grp_le (bs : List UInt8) : ∀ i, i ≤ 10 → grp i bs ≤ i + bs.length ∧ grp i bs ≤ 10 := by
  induction bs with
  | nil => intro i _; simp [grp]
  | cons c r ih =>
    intro i hi
    unfold grp
    split
    · simp
    · split
      · simp only [List.length_cons]; omega
      · have := ih (i + 1) (by omega)
        simp only [List.length_cons]; omega

theorem un128_top (bs : List UInt8) (m : Nat) (hm : m < bs.length) (hm9 : m < 9 ∨ m = 9 ∧ (bs[m]'hm).toNat ≤ 1) (j : Nat) (hj : j ≤ m) : un128 ((bs.take (m + 1)).drop (j + 1)) < 2 ^ 57 := by
  rcases hm9 with h | ⟨rfl, h⟩
  · have h1 := un128_lt ((bs.take (m + 1)).drop (j + 1))
    have h2 : ((bs.take (m + 1)).drop (j + 1)).length ≤ 8 := by simp; omega
    have h3 : (128 : Nat) ^ ((bs.take (m + 1)).drop (j + 1)).length ≤ 128 ^ 8 := Nat.pow_le_pow_right (by omega) h2
    omega
  · by_cases hj9 : j = 9
    · subst hj9
      rw [List.drop_of_length_le (by simp; omega)]
      simp [un128]
    · have e : (bs.take (9 + 1)).drop (j + 1) = (bs.take 9).drop (j + 1) ++ [bs[9]'hm] := by
        rw [List.take_succ_eq_append_getElem hm, List.drop_append_of_le_length (by simp; omega)]
      rw [e, un128_snoc]
      have h1 := un128_lt ((bs.take 9).drop (j + 1))
      have h2 : ((bs.take 9).drop (j + 1)).length ≤ 8 := by simp; omega
      have h3 : (128 : Nat) ^ ((bs.take 9).drop (j + 1)).length ≤ 128 ^ 8 := Nat.pow_le_pow_right (by omega) h2
      have h4 : (bs[9]'hm).toNat % 128 ≤ 1 := by omega
      have h5 := Nat.mul_le_mul_left (128 ^ ((bs.take 9).drop (j + 1)).length) h4
      omega

theorem rnum_fault (base : Nat) (r : Nat) (bs : List UInt8) (c : Nat) (w : World) (h : RRd base w r bs c) (hc : c ≠ 0) :
    Calls Tryd.prog 47 #[.pointer (some ⟨r, 0, none⟩)] w fun e w' => e = .returned (.int .u64 0) ∧ w' = w := by
  obtain ⟨v, hs, hh, h0, h1, f0, f1⟩ := rrd_cells h
  have hg : ((c : Int) != 0) = true := by simp; omega
  clear h hc
  go_enter Tryd.func47, Tryd.ntmps47
  go_wp2
  go_ret
  exact ⟨rfl, rfl⟩

set_option maxHeartbeats 400000 in
theorem rnum_none (base : Nat) (r : Nat) (bs : List UInt8) (w : World) (h : RRd base w r bs 0) (hl : bs.length ≤ 140737488351232) (hG : Hid (grp 0 bs = 0)) :
    Calls Tryd.prog 47 #[.pointer (some ⟨r, 0, none⟩)] w fun e w' => e = .returned (.int .u64 0) ∧ RRd base w' r bs (if bs.length < 10 then 2 else 3) ∧ But r w w' := by
  obtain ⟨v, hs, hh, h0, h1, f0, f1⟩ := rrd_cells h
  have hgr := groups_any base v bs w hs hl
  rw [hG.out] at hgr
  obtain ⟨ao, cap, rfl, _⟩ := hs
  by_cases hlt : bs.length < 10
  · simp only [if_pos hlt]
    have g : (bs.length : Int) < 10 := by omega
    clear hlt
    go_enter Tryd.func47, Tryd.ntmps47
    go_wp2_with fail
    refine hgr.mono ?_
    rintro e w1 ⟨rfl, rfl⟩
    clear hgr
    go_wp2_with fail
    refine (fail_any base r bs 0 2 _ h).mono ?_
    rintro e w1 ⟨rfl, h1, h2⟩
    go_wp2
    go_ret
    exact ⟨rfl, h1, h2⟩
  · simp only [if_neg hlt]
    have g : decide ((bs.length : Int) < 10) = false := by simp; omega
    clear hlt
    go_enter Tryd.func47, Tryd.ntmps47
    go_wp2_with fail
    refine hgr.mono ?_
    rintro e w1 ⟨rfl, rfl⟩
    clear hgr
    go_wp2_with fail
    refine (fail_any base r bs 0 3 _ h).mono ?_
    rintro e w1 ⟨rfl, h1, h2⟩
    go_wp2
    go_ret
    exact ⟨rfl, h1, h2⟩

set_option maxHeartbeats 800000 in
/-- A tenth byte that is too great. -/
theorem rnum_ten (base : Nat) (r : Nat) (bs : List UInt8) (w : World) (h : RRd base w r bs 0) (hl : bs.length ≤ 140737488351232) (hG : Hid (grp 0 bs = 10)) (h9 : 9 < bs.length) (hb : 1 < (bs[9]'h9).toNat) :
    Calls Tryd.prog 47 #[.pointer (some ⟨r, 0, none⟩)] w fun e w' => e = .returned (.int .u64 0) ∧ RRd base w' r bs 3 ∧ But r w w' := by
  obtain ⟨v, hs, hh, h0, h1, f0, f1⟩ := rrd_cells h
  have hgr := groups_any base v bs w hs hl
  rw [hG.out] at hgr
  obtain ⟨ao, cap, rfl, _, _, hx⟩ := hs
  obtain ⟨b, o, rfl, _, ha⟩ := hx (by rintro rfl; simp at h9)
  have hc := ha 9 h9
  simp only [B] at hc
  have g : (1 : Int) < ((bs[9]'h9).toNat : Int) := by omega
  have g9 : (9 : Int) < (bs.length : Int) := by omega
  clear ha hx hb
  generalize (bs[9]'h9).toNat = q at hc g
  clear h9
  go_enter Tryd.func47, Tryd.ntmps47
  go_wp2_with fail
  refine hgr.mono ?_
  rintro e w1 ⟨rfl, rfl⟩
  clear hgr
  go_wp2_with fail
  refine (fail_any base r bs 0 3 _ h).mono ?_
  rintro e w1 ⟨rfl, h1, h2⟩
  go_wp2
  go_ret
  exact ⟨rfl, h1, h2⟩

set_option maxHeartbeats 800000 in
/-- A last group that is 0 and not the only one. -/
theorem rnum_zero (base : Nat) (r : Nat) (bs : List UInt8) (w : World) (h : RRd base w r bs 0) (hl : bs.length ≤ 140737488351232) (m : Nat) (hG : Hid (grp 0 bs = m + 1)) (hm : m < bs.length) (hm0 : 0 < m) (hm9 : m ≤ 9) (hb : (bs[m]'hm).toNat = 0) :
    Calls Tryd.prog 47 #[.pointer (some ⟨r, 0, none⟩)] w fun e w' => e = .returned (.int .u64 0) ∧ RRd base w' r bs 3 ∧ But r w w' := by
  obtain ⟨v, hs, hh, h0, h1, f0, f1⟩ := rrd_cells h
  have hgr := groups_any base v bs w hs hl
  rw [hG.out] at hgr
  obtain ⟨ao, cap, rfl, _, _, hx⟩ := hs
  obtain ⟨b, o, rfl, _, ha⟩ := hx (by rintro rfl; simp at hm)
  have hc := ha m hm
  simp only [B, hb] at hc
  clear ha hx hb
  by_cases h9 : m = 9
  · subst h9
    have g9 : (9 : Int) < (bs.length : Int) := by omega
    clear hm hm0 hm9
    go_enter Tryd.func47, Tryd.ntmps47
    go_wp2_with fail
    refine hgr.mono ?_
    rintro e w1 ⟨rfl, rfl⟩
    clear hgr
    go_wp2_with fail
    refine (fail_any base r bs 0 3 _ h).mono ?_
    rintro e w1 ⟨rfl, h1, h2⟩
    go_wp2
    go_ret
    exact ⟨rfl, h1, h2⟩
  · have g1 : (1 : Int) < (m : Int) + 1 := by omega
    have g2 : ((m : Int) + 1 == 10) = false := by simp; omega
    have g3 : ((m : Int) + 1 == 0) = false := by simp; omega
    have g4 : (m : Int) ≤ 8 := by omega
    clear hm0 hm9 h9
    go_enter Tryd.func47, Tryd.ntmps47
    go_wp2_with fail
    refine hgr.mono ?_
    rintro e w1 ⟨rfl, rfl⟩
    rw [show ((m + 1 : Nat) : Int) = (m : Int) + 1 from by omega]
    clear hgr
    go_wp2_with fail
    refine (fail_any base r bs 0 3 _ h).mono ?_
    rintro e w1 ⟨rfl, h1, h2⟩
    go_wp2
    go_ret
    exact ⟨rfl, h1, h2⟩
end Go.Proofs.YtpjpjoefmnnpmaaDoor
