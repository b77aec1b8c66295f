/- sat: what Len64 and LeadingZeros64 of the library answer. -/
import Derived.Test.YtknanpnbpmmlgaaSatMul
import Derived.Lib.Tables
import Derived.Deep.Light
set_option linter.unusedVariables false
namespace Go.Proofs.Ytknanpnbpmmlgaa
open Go Go.RowKit

/-- How many bits a number has. -/
def len64 (n : Nat) : Nat := if n = 0 then 0 else Nat.log2 n + 1

theorem len_of (n L : Nat) (h0 : 0 < L) (h1 : 2 ^ (L - 1) ≤ n) (h2 : n < 2 ^ L) : len64 n = L := by
  have hp := Nat.two_pow_pos (L - 1)
  have hn : n ≠ 0 := by omega
  unfold len64
  rw [if_neg hn]
  have : Nat.log2 n = L - 1 := by
    rw [Nat.log2_eq_iff hn]
    refine ⟨h1, ?_⟩
    rw [Nat.sub_add_cancel h0]; exact h2
  omega

theorem len8_small (k : Nat) (h : k < 256) : Lib.len8 (k : Int) = (len64 k : Int) := by
  have e : ∀ k : Fin 256, ((Lib.len8tab[k.val]?).getD 0).toNat = len64 k.val := by decide +kernel
  have := e ⟨k, h⟩
  show ((((Lib.len8tab[((k : Int)).toNat]?).getD 0).toNat : Nat) : Int) = _
  rw [Int.toNat_natCast, this]

theorem len_up (x k : Nat) (h : 0 < x / 2 ^ k) : len64 x = k + len64 (x / 2 ^ k) := by
  have hx : x ≠ 0 := by rintro rfl; simp at h
  have e : Nat.log2 x = k + Nat.log2 (x / 2 ^ k) := by
    rw [Nat.log2_eq_iff hx]
    have h1 := Nat.log2_self_le (show x / 2 ^ k ≠ 0 by omega)
    have h2 := Nat.lt_log2_self (n := x / 2 ^ k)
    rw [Nat.le_div_iff_mul_le (Nat.two_pow_pos _)] at h1
    rw [Nat.div_lt_iff_lt_mul (Nat.two_pow_pos _)] at h2
    rw [← Nat.pow_add] at h1 h2
    refine ⟨by rw [Nat.add_comm]; exact h1, by rw [show k + Nat.log2 (x / 2 ^ k) + 1 = Nat.log2 (x / 2 ^ k) + 1 + k by omega]; exact h2⟩
  unfold len64
  rw [if_neg hx, if_neg (by omega), e]; omega

theorem len_byte (q : Int) (h : q.toNat < Lib.len8tab.size) : ((Lib.len8tab[q.toNat]'h).toNat : Int) = (len64 q.toNat : Int) := by
  have hk : q.toNat < 256 := by rw [Lib.len8tab_size] at h; exact h
  have e := len8_small q.toNat hk
  have h2 : Lib.len8 ((q.toNat : Nat) : Int) = ((Lib.len8tab[q.toNat]'h).toNat : Int) := by
    show ((((Lib.len8tab[((q.toNat : Nat) : Int).toNat]?).getD 0).toNat : Nat) : Int) = _
    rw [Int.toNat_natCast, ByteArray.getElem?_lt' _ _ h, Option.getD_some]
  rw [← h2, e]

theorem len_small (k : Nat) (h : k < 256) : len64 k ≤ 8 := by
  have e : ∀ k : Fin 256, len64 k.val ≤ 8 := by decide +kernel
  exact e ⟨k, h⟩

theorem len_way (x q : Int) (k d : Nat) (hd : 2 ^ k = d) (hx : 0 ≤ x) (hq : q = x / d) (hp : 0 < q ∨ k = 0) : len64 x.toNat = k + len64 q.toNat := by
  obtain ⟨n, rfl⟩ := Int.eq_ofNat_of_zero_le hx
  have e : q.toNat = n / 2 ^ k := by rw [hq, hd, ← Int.natCast_ediv, Int.toNat_natCast]
  rw [e, Int.toNat_natCast]
  rcases hp with hp | rfl
  · exact len_up n k (by omega)
  · simp

theorem len_end (x q kk : Int) (k d : Nat) (hd : 2 ^ k = d) (hx : 0 ≤ x) (hq : q = x / d) (hp : 0 < q ∨ k = 0) (hb : q < 256) (hkk : kk = k) (hk : k ≤ 56) (h : q.toNat < Lib.len8tab.size) :
    wrap64 (kk + wrap64 ((Lib.len8tab[q.toNat]'h).toNat : Int)) = (len64 x.toNat : Int) := by
  have hs := len_small q.toNat (by rw [Lib.len8tab_size] at h; exact h)
  have hw := len_way x q k d hd hx hq hp
  rw [len_byte, hw, hkk]
  generalize len64 q.toNat = m at hs ⊢
  clear hw hd hq hp hb hx h hkk
  simp only [wrap64]
  omega

set_option maxRecDepth 100000 in
set_option maxHeartbeats 4000000 in
theorem Len64_int (x : Int) (h0 : 0 ≤ x) (h1 : x ≤ 18446744073709551615) (w : World) :
    Calls Try.prog 41 #[.int .u64 x] w fun e w' => e = .returned (.int .i64 (len64 x.toNat : Int)) ∧ w' = w := by
  have hsz : (Lib.len8tab.size : Int) = 256 := by rw [Lib.len8tab_size]; rfl
  go_enter Try.func41, Try.ntmps41
  go_wp2
  all_goals first
    | (go_ret; refine ⟨congrArg Ending.returned (congrArg (Value.int IntKind.i64) ?_), rfl⟩; go_light)
    | (exfalso
       go_light
       omega)
  · exact len_end x _ 56 56 72057594037927936 (by decide) h0 (by omega) (by omega) (by omega) rfl (by omega) _
  · exact len_end x _ 48 48 281474976710656 (by decide) h0 (by omega) (by omega) (by omega) rfl (by omega) _
  · exact len_end x _ 40 40 1099511627776 (by decide) h0 (by omega) (by omega) (by omega) rfl (by omega) _
  · exact len_end x _ 32 32 4294967296 (by decide) h0 (by omega) (by omega) (by omega) rfl (by omega) _
  · exact len_end x _ 24 24 16777216 (by decide) h0 (by omega) (by omega) (by omega) rfl (by omega) _
  · exact len_end x _ 16 16 65536 (by decide) h0 (by omega) (by omega) (by omega) rfl (by omega) _
  · exact len_end x _ 8 8 256 (by decide) h0 (by omega) (by omega) (by omega) rfl (by omega) _
  · have e := len_end x x 0 0 1 (by decide) h0 (by omega) (by omega) (by omega) rfl (by omega) (by rw [Lib.len8tab_size]; omega)
    rw [Int.zero_add] at e
    rw [← e]

/-- How far a number that isn't 0 must move up till its highest bit is set. -/
theorem len_bounds (y : Nat) (h0 : 0 < y) (hy : y < 18446744073709551616) : 0 < len64 y ∧ len64 y ≤ 64 ∧ 2 ^ (len64 y - 1) ≤ y ∧ y < 2 ^ len64 y := by
  have hn : y ≠ 0 := by omega
  have e : len64 y = Nat.log2 y + 1 := by unfold len64; rw [if_neg hn]
  have h1 := Nat.log2_self_le hn
  have h2 := Nat.lt_log2_self (n := y)
  have h3 : Nat.log2 y < 64 := (Nat.log2_lt hn).2 (by simpa using hy)
  rw [e]
  exact ⟨by omega, by omega, by simpa using h1, h2⟩

set_option maxHeartbeats 400000 in
theorem LeadingZeros64_any (y : Nat) (h0 : 0 < y) (hy : y < 18446744073709551616) (w : World) :
    Calls Try.prog 40 #[V y] w fun e w' => e = .returned (.int .i64 ((64 - len64 y : Nat) : Int)) ∧ w' = w := by
  obtain ⟨h1, h2, _, _⟩ := len_bounds y h0 hy
  have hl := Len64_int (y : Int) (by omega) (by omega) w
  rw [Int.toNat_natCast] at hl
  generalize len64 y = L at h1 h2 hl
  have hs : wrap64 (64 - (L : Int)) = ((64 - L : Nat) : Int) := by simp only [wrap64]; omega
  clear h1 h2 h0 hy
  go_enter Try.func40, Try.ntmps40
  go_wp2_with fail
  refine hl.mono ?_
  rintro e w1 ⟨rfl, rfl⟩
  go_wp2
  go_ret
  exact ⟨congrArg (fun z => Ending.returned (.int .i64 z)) hs, rfl⟩
end Go.Proofs.Ytknanpnbpmmlgaa
