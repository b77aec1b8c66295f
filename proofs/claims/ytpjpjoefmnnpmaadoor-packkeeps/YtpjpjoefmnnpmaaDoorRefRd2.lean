/- The reference's reader of layer 1: numbers of 1, 2, 4 and 8 bytes. -/
import Derived.Test.YtpjpjoefmnnpmaaDoorRefRd
set_option linter.unusedVariables false
namespace Go.Proofs.YtpjpjoefmnnpmaaDoor
open Go Go.RowKit

def cA (n : Nat) (bs : List UInt8) (c : Nat) : Nat := if c = 0 ∧ n ≤ bs.length then unle (bs.take n) else 0
def cL (n : Nat) (bs : List UInt8) (c : Nat) : List UInt8 := if c = 0 ∧ n ≤ bs.length then bs.drop n else bs
def cF (n : Nat) (bs : List UInt8) (c : Nat) : Nat := if c = 0 then (if n ≤ bs.length then 0 else 2) else c

set_option maxHeartbeats 400000 in
theorem little_fault (base : Nat) (r : Nat) (bs : List UInt8) (c n : Nat) (w : World) (h : RRd base w r bs c) (hc : c ≠ 0) :
    Calls Tryd.prog 61 #[.pointer (some ⟨r, 0, none⟩), .int .i64 n] w fun e w' => e = .returned (.int .u64 0) ∧ w' = w := by
  obtain ⟨v, hs, hh, h0, h1, f0, f1⟩ := rrd_cells h
  have hg : ((c : Int) != 0) = true := by simp; omega
  clear h hc
  go_enter Tryd.func61, Tryd.ntmps61
  go_wp2
  go_ret
  exact ⟨rfl, rfl⟩

set_option maxHeartbeats 400000 in
theorem little_short (base : Nat) (r : Nat) (bs : List UInt8) (n : Nat) (w : World) (h : RRd base w r bs 0) (hn : bs.length < n) :
    Calls Tryd.prog 61 #[.pointer (some ⟨r, 0, none⟩), .int .i64 n] w fun e w' => e = .returned (.int .u64 0) ∧ RRd base w' r bs 2 ∧ But r w w' := by
  obtain ⟨v, hs, hh, h0, h1, f0, f1⟩ := rrd_cells h
  obtain ⟨ao, cap, rfl, _⟩ := hs
  go_enter Tryd.func61, Tryd.ntmps61
  go_wp2_with fail
  refine (fail_any base r bs 0 2 _ h).mono ?_
  rintro e w1 ⟨rfl, h1, h2⟩
  go_wp2
  go_ret
  exact ⟨rfl, h1, h2⟩

theorem wrap_step (X q : Nat) (hX : Hid (X < 2 ^ 56)) (hq : Hid (q < 256)) : Value.int IntKind.u64 (IntKind.u64.wrap (IntKind.u64.wrap ((X : Int) * 256) + IntKind.u64.wrap (q : Int))) = Value.int .u64 ((X * 256 + q : Nat) : Int) := by
  have h1 := hX.out
  have h2 := hq.out
  congr 1
  rw [IntKind.wrap_u64, IntKind.wrap_u64, IntKind.wrap_u64]
  omega

set_option maxHeartbeats 800000 in
theorem little_ok (base : Nat) (r : Nat) (bs : List UInt8) (n : Nat) (w : World) (h : RRd base w r bs 0) (hn : n ≤ bs.length) (h1n : 0 < n) (h8 : n ≤ 8) :
    Calls Tryd.prog 61 #[.pointer (some ⟨r, 0, none⟩), .int .i64 n] w fun e w' => e = .returned (.int .u64 (unle (bs.take n))) ∧ RRd base w' r (bs.drop n) 0 ∧ But r w w' := by
  obtain ⟨v, hs, hh, h0, h1, f0, f1⟩ := rrd_cells h
  obtain ⟨v2, hs2, _, _, hh2⟩ := sl_cut hs n bs.length hn (by omega)
  have hcut2 := hh2 rfl
  have hr := rrd_set_left h hs2
  rw [List.take_of_length_le (by simp)] at hr
  obtain ⟨ao2, cap2, rfl, _⟩ := hs2
  rw [show ((bs.drop n).take (bs.length - n)).length = bs.length - n by simp] at hcut2 hr
  obtain ⟨ao, cap, rfl, _, _, hx⟩ := hs
  obtain ⟨b, o, rfl, _, ha⟩ := hx (by rintro rfl; simp at hn; omega)
  obtain ⟨N, hN⟩ : ∃ N : Nat, N = unle (bs.take n) := ⟨_, rfl⟩
  rw [← hN]
  have HN : Hid (N = unle (bs.take n)) := hN
  have H8 : Hid (n ≤ 8) := h8
  clear hh2 h hN hx
  obtain ⟨m, rfl⟩ : ∃ m, n = m + 1 := ⟨n - 1, by omega⟩
  have hm7 : (m : Int) ≤ 7 := by omega
  rw [show ((m + 1 : Nat) : Int) = (m : Int) + 1 from by omega] at hcut2
  clear h1n h8
  go_enter Tryd.func61, Tryd.ntmps61
  go_wp2_with fail
  go_loop [5, 6] (fun x i => ∃ X : Nat, x = .int .u64 (X : Int) ∧ ((∃ j : Nat, i = .int .i64 (j : Int) ∧ j < m + 1 ∧ Hid (X = unle ((bs.take (m + 1)).drop (j + 1)))) ∨ (i = .int .i64 (-1) ∧ X = N))) (fun _ i => (intOf i + 1).toNat)
  case atStart => exact ⟨0, rfl, .inl ⟨m, by first | rfl | (congr 1; omega) | simp, by omega, by show 0 = _; rw [List.drop_of_length_le (by simp; omega)]; rfl⟩⟩
  case round =>
    obtain ⟨X, rfl, ⟨j, rfl, hj, hX⟩ | ⟨rfl, rfl⟩⟩ := hrel
    · have hc := ha j (by omega)
      have hq := (bs[j]'(by omega)).toNat_lt
      have hXlt : Hid (X < 2 ^ 56) := by
        show X < _
        rw [hX.out]
        have h1 := unle_lt ((bs.take (m + 1)).drop (j + 1))
        have h2 : ((bs.take (m + 1)).drop (j + 1)).length ≤ 7 := by have := H8.out; simp; omega
        have h3 : (256 : Nat) ^ ((bs.take (m + 1)).drop (j + 1)).length ≤ 256 ^ 7 := Nat.pow_le_pow_right (by omega) h2
        omega
      have hnx : Hid (X * 256 + (bs[j]'(by omega)).toNat = unle ((bs.take (m + 1)).drop j)) := by
        show _ = _
        rw [List.drop_eq_getElem_cons (by simp; omega), unle, hX.out]
        simp; omega
      simp only [B] at hc
      have Hq : Hid ((bs[j]'(by omega)).toNat < 256) := hq
      clear ha hq
      generalize (bs[j]'(by omega)).toNat = q at hc hnx Hq
      have hj7 : (j : Int) ≤ 7 := by omega
      rcases j with _ | j
      · have hfin : Hid (X * 256 + q = N) := by rw [HN.out]; exact hnx
        simp only [Nat.add_zero] at hc
        go_wp2
        go_round
        case rel => exact ⟨X * 256 + q, wrap_step X q hXlt Hq, .inr ⟨by first | rfl | simp, hfin⟩⟩
        case measure => simp [intOf]
      · go_wp2
        go_round
        case rel => exact ⟨X * 256 + q, wrap_step X q hXlt Hq, .inl ⟨j, by first | rfl | simp | (congr 1; omega), by omega, hnx⟩⟩
        case measure => simp [intOf]; omega
    · clear ha
      go_wp2
      go_ret
      exact ⟨rfl, hr, But.setCell _ _ _ _⟩
end Go.Proofs.YtpjpjoefmnnpmaaDoor
