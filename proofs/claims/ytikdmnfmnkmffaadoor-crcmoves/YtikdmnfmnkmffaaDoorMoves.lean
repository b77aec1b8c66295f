/- The law CrcMoves returns true for every numbers, and changes nothing that was there, where the table of half bytes lies in its variable. -/
import Derived.Test.YtikdmnfmnkmffaaDoorAwake
set_option linter.unusedVariables false
namespace Go.Proofs.YtikdmnfmnkmffaaDoor
open Go Go.RowKit

set_option maxHeartbeats 1600000 in
theorem CrcMoves_any (a b : W32) (m n : Int) (hm0 : -9223372036854775808 ≤ m) (hm1 : m ≤ 9223372036854775807) (hn0 : -9223372036854775808 ≤ n) (hn1 : n ≤ 9223372036854775807) (w : World) (ht : Tb w) :
    Calls Tryd.prog 6 #[U a, U b, .int .i64 m, .int .i64 n] w fun e w' => e = .returned (.bool true) ∧ Up w w' := by
  have j1 : ∀ z : Int, z ≤ 0 → -9223372036854775808 ≤ z → ∀ w : World, Calls Tryd.prog 14 #[U a, U b, .int .i64 z] w fun e w' => e = .returned (U (a ^^^ b)) ∧ w' = w := by
    intro z hz hz2 w
    have h := Join_any a b z hz2 (by omega) w
    rw [Int.toNat_of_nonpos hz] at h
    exact h
  have x1 := xor_u a b
  have j2 := Join_any (a ^^^ b) 0#32 n hn0 hn1
  have j3 := Join_any a 0#32 n hn0 hn1
  have j4 := Join_any b 0#32 n hn0 hn1
  have j5 := Join_any a b n hn0 hn1
  have e2 : joinC (a ^^^ b) 0#32 n.toNat = joinC a 0#32 n.toNat ^^^ joinC b 0#32 n.toNat := by simp [joinC, stpn_xor]
  have e5 : joinC a b n.toNat = joinC a 0#32 n.toNat ^^^ b := by simp [joinC]
  have x2 := xor_u (joinC a 0#32 n.toNat) (joinC b 0#32 n.toNat)
  have x5 := xor_u (joinC a 0#32 n.toNat) b
  have hlast : 0 ≤ m → 0 ≤ n → joinC (joinC a 0#32 m.toNat) 0#32 n.toNat = joinC a 0#32 (m + n).toNat := by
    intro h1 h2
    have : (m + n).toNat = n.toNat + m.toNat := by omega
    simp only [joinC, BitVec.xor_zero]
    rw [← stpn_add, this, Nat.mul_add]
  rw [e2] at j2
  rw [e5] at j5
  have Hl : Hid _ := hlast
  clear hlast e2 e5
  generalize joinC a 0#32 n.toNat ^^^ joinC b 0#32 n.toNat = C2 at j2 x2
  generalize joinC a 0#32 n.toNat ^^^ b = C5 at j5 x5
  generalize joinC a 0#32 n.toNat = A2 at j3 x2 x5
  generalize joinC b 0#32 n.toNat = B2 at j4 x2
  generalize a ^^^ b = C1 at j1 x1 j2
  go_enter Tryd.func6, Tryd.ntmps6
  go_wp2_with fail
  refine (awake_any _ ht).mono ?_
  rintro e w1 ⟨rfl, hu⟩
  go_wp2_with fail
  all_goals
    refine (j1 _ (by omega) (by omega) _).mono ?_
    rintro e w2 ⟨rfl, rfl⟩
    go_wp2_with fail
    refine (j2 _).mono ?_
    rintro e w3 ⟨rfl, rfl⟩
    go_wp2_with fail
    refine (j3 _).mono ?_
    rintro e w4 ⟨rfl, rfl⟩
    go_wp2_with fail
    refine (j4 _).mono ?_
    rintro e w5 ⟨rfl, rfl⟩
    go_wp2_with fail
    refine (j5 _).mono ?_
    rintro e w6 ⟨rfl, rfl⟩
    go_wp2_with fail
    refine (j3 _).mono ?_
    rintro e w7 ⟨rfl, rfl⟩
    clear j1 j2 j4 j5
    have j6 := Join_any a 0#32 m hm0 hm1
    by_cases c1 : m < 0
    · go_wp2
      go_ret
      exact ⟨rfl, hu⟩
    by_cases c2 : n < 0
    · go_wp2
      go_ret
      exact ⟨rfl, hu⟩
    by_cases c3 : 1099511627776 < m
    · go_wp2
      go_ret
      exact ⟨rfl, hu⟩
    by_cases c4 : 1099511627776 < n
    · go_wp2
      go_ret
      exact ⟨rfl, hu⟩
    have hl := Hl.out (by omega) (by omega)
    have j7 := Join_any (joinC a 0#32 m.toNat) 0#32 n hn0 hn1
    have j8 := Join_any a 0#32 (m + n) (by omega) (by omega)
    rw [hl] at j7
    have hsum : (m + n).toNat = (m + n).toNat := rfl
    generalize joinC a 0#32 m.toNat = E1 at j6 j7
    generalize joinC a 0#32 (m + n).toNat = E2 at j7 j8
    clear hl hsum Hl
    go_wp2_with fail
    refine (j6 _).mono ?_
    rintro e w8 ⟨rfl, rfl⟩
    go_wp2_with fail
    refine (j7 _).mono ?_
    rintro e w9 ⟨rfl, rfl⟩
    go_wp2_with fail
    refine (j8 _).mono ?_
    rintro e w10 ⟨rfl, rfl⟩
    clear j6 j7 j8
    go_wp2
    go_ret
    exact ⟨rfl, hu⟩
end Go.Proofs.YtikdmnfmnkmffaaDoor
