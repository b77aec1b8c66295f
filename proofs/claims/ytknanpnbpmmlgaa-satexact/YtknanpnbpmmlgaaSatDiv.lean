/- sat: what Div64 of the library answers. -/
import Derived.Test.YtknanpnbpmmlgaaSatLen
import Derived.Laws.BitsAllLaws
import Derived.Deep.LoopGhost
import Derived.Deep.CutBlock
import Derived.Deep.DeepCutAuto
set_option linter.unusedVariables false
namespace Go.Proofs.Ytknanpnbpmmlgaa
open Go Go.RowKit

theorem ne_int (a : Nat) (h : a ≠ 0) : ((a : Int) == 0) = false := by simp; omega

/-- What one round of the guess's loop needs, of numbers alone. -/
structure Rn (u d y1 y0 q r : Nat) : Prop where
  dv : Dv u d y1 y0 q r
  br : r < 4294967296
  bu : u < y1 * 4294967296 + y0
  bd : d < 4294967296
  by0 : y0 < 4294967296
  blo : 2147483648 ≤ y1
  bhi : y1 * 4294967296 + y0 < 18446744073709551616

/-- The test of the loop: a round is due just where the guess is too great. -/
theorem Rn.next {u d y1 y0 q r : Nat} (h : Rn u d y1 y0 q r) (hm : u * 4294967296 + d < q * (y1 * 4294967296 + y0)) :
    IntKind.u64.wrap ((q : Int) - 1) = ((q - 1 : Nat) : Int) ∧ IntKind.u64.wrap ((r : Int) + (y1 : Int)) = ((r + y1 : Nat) : Int) ∧ q - 1 < q ∧ (r + y1 < 4294967296 → Rn u d y1 y0 (q - 1) (r + y1)) ∧
    (4294967296 ≤ r + y1 → q - 1 = (u * 4294967296 + d) / (y1 * 4294967296 + y0)) := by
  obtain ⟨h0, hn⟩ := dv_next h.dv hm
  have hr := h.br
  have hi := h.bhi
  have hq := h.dv.le
  refine ⟨?_, ?_, by omega, fun h1 => ⟨hn, h1, h.bu, h.bd, h.by0, h.blo, h.bhi⟩, fun h1 => ?_⟩
  · rw [IntKind.wrap_u64]; omega
  · rw [IntKind.wrap_u64]; omega
  · exact dv_done hn (dv_out hn (by omega) h.by0 h1)

/-- The products of the test, where the guess has 32 bits. -/
theorem Rn.test {u d y1 y0 q r : Nat} (h : Rn u d y1 y0 q r) (hq : q < 4294967296) :
    IntKind.u64.wrap ((q : Int) * (y0 : Int)) = ((q * y0 : Nat) : Int) ∧ IntKind.u64.wrap ((4294967296 : Int) * (r : Int)) = ((r * 4294967296 : Nat) : Int) ∧ IntKind.u64.wrap (((r * 4294967296 : Nat) : Int) + (d : Int)) = ((r * 4294967296 + d : Nat) : Int) := by
  have hr := h.br
  have hd := h.bd
  have hy := h.by0
  have hm := Nat.mul_le_mul (show q ≤ 4294967295 by omega) (show y0 ≤ 4294967295 by omega)
  refine ⟨?_, ?_, ?_⟩
  · rw [mul_n]; exact wrap_n _ (by omega)
  · rw [IntKind.wrap_u64]; omega
  · rw [IntKind.wrap_u64]; omega

theorem pow_n (S : Nat) : ((2 : Int) ^ S) = ((2 ^ S : Nat) : Int) := (Int.natCast_pow 2 S).symm

theorem rest_wrap (u d y : Nat) (hyl : y < 18446744073709551616) (hy : 0 < y) : ∃ a b c : Nat,
    IntKind.u64.wrap ((u : Int) * 4294967296) = (a : Int) ∧ IntKind.u64.wrap ((a : Int) + (d : Int)) = (b : Int) ∧ IntKind.u64.wrap ((((u * 4294967296 + d) / y : Nat) : Int) * (y : Int)) = (c : Int) ∧
    IntKind.u64.wrap ((b : Int) - (c : Int)) = (((u * 4294967296 + d) % y : Nat) : Int) := by
  have h1 := Nat.div_add_mod (u * 4294967296 + d) y
  have h2 := Nat.mod_lt (u * 4294967296 + d) hy
  generalize (u * 4294967296 + d) % y = m at h1 h2 ⊢
  refine ⟨u * 4294967296 % 18446744073709551616, (u * 4294967296 + d) % 18446744073709551616, (u * 4294967296 + d) / y * y % 18446744073709551616, ?_, ?_, ?_, ?_⟩
  · rw [IntKind.wrap_u64]; omega
  · rw [IntKind.wrap_u64]; omega
  · rw [mul_n, wrap_m]
  · rw [Nat.mul_comm y] at h1
    generalize (u * 4294967296 + d) / y * y = p at h1 ⊢
    rw [IntKind.wrap_u64]; omega

theorem join_wrap (g f : Nat) (hg : g < 4294967296) (hf : f < 4294967296) : IntKind.u64.wrap ((g : Int) * 4294967296) = ((g * 4294967296 : Nat) : Int) ∧ IntKind.u64.wrap (((g * 4294967296 : Nat) : Int) + (f : Int)) = ((g * 4294967296 + f : Nat) : Int) := by
  constructor <;> (rw [IntKind.wrap_u64]; omega)

theorem first_wrap (u d y1 y0 : Nat) (hu : u < y1 * 4294967296 + y0) (hd : d < 4294967296) (h0 : y0 < 4294967296) (hl : 2147483648 ≤ y1) (hh : y1 * 4294967296 + y0 < 18446744073709551616) :
    ∃ q p r : Nat, (u : Int) / (y1 : Int) = (q : Int) ∧ IntKind.u64.wrap (q : Int) = (q : Int) ∧ IntKind.u64.wrap ((q : Int) * (y1 : Int)) = (p : Int) ∧ IntKind.u64.wrap ((u : Int) - (p : Int)) = (r : Int) ∧ Rn u d y1 y0 q r := by
  have h := dv_first u d y1 y0 hl h0 hu hd
  have hm := Nat.div_add_mod u y1
  have hr := Nat.mod_lt u (show 0 < y1 by omega)
  have hle := h.le
  refine ⟨u / y1, y1 * (u / y1), u % y1, (Int.natCast_ediv ..).symm, wrap_n _ (by omega), ?_, ?_, ⟨h, by omega, hu, hd, h0, hl, hh⟩⟩
  · rw [mul_n, Nat.mul_comm]; exact wrap_n _ (by omega)
  · generalize y1 * (u / y1) = p at hm ⊢
    rw [IntKind.wrap_u64]; omega

/-- All the numbers behind the first digit: the first digit G, what it leaves E, the second digit F, and what is answered. -/
theorem rest_all (n y S U D1 D0 A B : Nat) (hA : 2147483648 ≤ A) (hB : B < 4294967296) (hh : A * 4294967296 + B < 18446744073709551616) (hd1 : D1 < 4294967296) (hd0 : D0 < 4294967296) (hu : U < A * 4294967296 + B) (hY : A * 4294967296 + B = y * 2 ^ S)
    (hM : U * 18446744073709551616 + (D1 * 4294967296 + D0) = n * 2 ^ S) : ∃ G E F a1 a2 a3 b1 b2 b3 q p r g : Nat,
    (U * 4294967296 + D1) / (A * 4294967296 + B) = G ∧ (E * 4294967296 + D0) / (A * 4294967296 + B) = F ∧
    IntKind.u64.wrap ((U : Int) * 4294967296) = (a1 : Int) ∧ IntKind.u64.wrap ((a1 : Int) + (D1 : Int)) = (a2 : Int) ∧ IntKind.u64.wrap ((G : Int) * ((A * 4294967296 + B : Nat) : Int)) = (a3 : Int) ∧ IntKind.u64.wrap ((a2 : Int) - (a3 : Int)) = (E : Int) ∧
    (E : Int) / (A : Int) = (q : Int) ∧ IntKind.u64.wrap (q : Int) = (q : Int) ∧ IntKind.u64.wrap ((q : Int) * (A : Int)) = (p : Int) ∧ IntKind.u64.wrap ((E : Int) - (p : Int)) = (r : Int) ∧ Rn E D0 A B q r ∧
    IntKind.u64.wrap ((E : Int) * 4294967296) = (b1 : Int) ∧ IntKind.u64.wrap ((b1 : Int) + (D0 : Int)) = (b2 : Int) ∧ IntKind.u64.wrap ((F : Int) * ((A * 4294967296 + B : Nat) : Int)) = (b3 : Int) ∧
    IntKind.u64.wrap (IntKind.u64.wrap ((b2 : Int) - (b3 : Int)) / 2 ^ S) = ((n % y : Nat) : Int) ∧
    IntKind.u64.wrap ((b2 : Int) - (b3 : Int)) / 2 ^ S = ((n % y : Nat) : Int) ∧
    IntKind.u64.wrap ((G : Int) * 4294967296) = (g : Int) ∧ IntKind.u64.wrap ((g : Int) + (F : Int)) = ((n / y : Nat) : Int) := by
  have hy0 : 0 < A * 4294967296 + B := by omega
  have hG := quot_lt hu hd1
  have hE := Nat.mod_lt (U * 4294967296 + D1) hy0
  have hF := quot_lt hE hd0
  obtain ⟨a1, a2, a3, k1, k2, k3, k4⟩ := rest_wrap U D1 (A * 4294967296 + B) hh hy0
  obtain ⟨b1, b2, b3, l1, l2, l3, l4⟩ := rest_wrap ((U * 4294967296 + D1) % (A * 4294967296 + B)) D0 (A * 4294967296 + B) hh hy0
  obtain ⟨q, p, r, f1, f2, f3, f4, f5⟩ := first_wrap ((U * 4294967296 + D1) % (A * 4294967296 + B)) D0 A B hE hd0 hB hA hh
  obtain ⟨j1, j2⟩ := join_wrap _ _ hG hF
  obtain ⟨t1, t2⟩ := quot_two U D1 D0 (A * 4294967296 + B) hy0
  obtain ⟨m1, m2⟩ := moved n y S
  rw [hM, hY, m1] at t1
  rw [hM, hY] at t2
  have hlast : IntKind.u64.wrap ((b2 : Int) - (b3 : Int)) / 2 ^ S = ((n % y : Nat) : Int) := by
    rw [l4, ← m2, ← t2, ← hY]
    rw [Int.natCast_ediv, Int.natCast_pow]; rfl
  have hlt : n % y < 18446744073709551616 := by
    rcases Nat.eq_zero_or_pos y with e | e
    · subst e; rw [Nat.zero_mul] at hY; omega
    · have h1 := Nat.mod_lt n e
      have h2 := Nat.mul_le_mul_left y (Nat.two_pow_pos S)
      omega
  refine ⟨_, _, _, a1, a2, a3, b1, b2, b3, q, p, r, _, rfl, rfl, k1, k2, k3, k4, f1, f2, f3, f4, f5, l1, l2, l3, ?_, hlast, j1, ?_⟩
  · rw [hlast]; exact wrap_n _ hlt
  · rw [j2, ← t1, ← hY]

set_option maxHeartbeats 1000000 in
theorem Div64_any (hi lo y : Nat) (hy : y < 18446744073709551616) (hlo : lo < 18446744073709551616) (hlt : hi < y) (w : World) :
    Calls Try.prog 31 #[V hi, V lo, V y] w fun e w' => e = .returned (.tuple #[V ((hi * 18446744073709551616 + lo) / y), V ((hi * 18446744073709551616 + lo) % y)]) ∧ Up w w' := by
  have y0 : ((y : Int) == 0) = false := ne_int y (by omega)
  have y1 : (hi : Int) < (y : Int) := by omega
  by_cases h0 : hi = 0
  · subst h0
    rw [Nat.zero_mul, Nat.zero_add]
    have hyp : (0 : Int) < (y : Int) := by omega
    have e1 : ((lo / y : Nat) : Int) = (lo : Int) / (y : Int) := Int.natCast_ediv ..
    have e2 : ((lo % y : Nat) : Int) = (lo : Int) % (y : Int) := Int.natCast_emod ..
    have e3 : IntKind.u64.wrap ((lo : Int) / (y : Int)) = (lo : Int) / (y : Int) := by
      rw [← e1]
      exact wrap_n _ (by have := Nat.div_le_self lo y; omega)
    clear hlt hy hlo
    show Calls Try.prog 31 #[V 0, V lo, V y] w fun e w' => e = .returned (.tuple #[.int .u64 ((lo / y : Nat) : Int), .int .u64 ((lo % y : Nat) : Int)]) ∧ Up w w'
    rw [e1, e2]
    clear e1 e2
    go_enter Try.func31, Try.ntmps31
    go_wp2
    go_region
    go_wp2
    go_ret2
    exact ⟨rfl, Up.drew _⟩
  · have h0' : ((hi : Int) == 0) = false := ne_int hi h0
    have hl := LeadingZeros64_any y (by omega) hy w
    obtain ⟨b1, b2, b3, b4⟩ := len_bounds y (by omega) hy
    obtain ⟨S, hS⟩ : ∃ S, 64 - len64 y = S := ⟨_, rfl⟩
    rw [hS] at hl
    have hS63 : (S : Int) ≤ 63 := by omega
    clear h0
    have hYl := moved_up y (len64 y) (by omega) b3 b4 b2 b1
    rw [hS] at hYl
    have hY : IntKind.u64.wrap ((y : Int) * 2 ^ S) = ((y * 2 ^ S : Nat) : Int) := by
      rw [IntKind.wrap_u64, Int.natCast_mul, Int.natCast_pow]
      rw [show (((2 : Nat) : Int)) = 2 from rfl]
      have : ((y * 2 ^ S : Nat) : Int) < 18446744073709551616 := by omega
      rw [Int.natCast_mul, Int.natCast_pow] at this
      exact Int.emod_eq_of_lt (Int.mul_nonneg (by omega) (Int.pow_nonneg (by decide))) this
    have HY : Hid (∃ Y, y * 2 ^ S = Y) := ⟨_, rfl⟩
    obtain ⟨Y, eY⟩ := HY.out
    rw [eY] at hY hYl
    have EY : Hid (y * 2 ^ S = Y) := eY
    obtain ⟨A, hA⟩ : ∃ A, Y / 4294967296 = A := ⟨_, rfl⟩
    have hA1 : (Y : Int) / 4294967296 = (A : Int) := by omega
    have hA0 : ((A : Int) == 0) = false := ne_int A (by omega)
    have hB : bits .and .u64 (Y : Int) 4294967295 = ((Y % 4294967296 : Nat) : Int) := mask_n Y hYl.2
    obtain ⟨B, eB⟩ : ∃ B, Y % 4294967296 = B := ⟨_, rfl⟩
    rw [eB] at hB
    have EB : Hid (Y = A * 4294967296 + B ∧ B < 4294967296 ∧ 2147483648 ≤ A ∧ Y < 18446744073709551616) := by
      have := hYl.1
      exact ⟨by omega, by omega, by omega, hYl.2⟩
    clear eY HY hYl hS hA eB b1 b2 b3 b4
    obtain ⟨m1, m2⟩ := moved_halves hi lo S (by omega) hlo
    have hYe0 := EB.out.1
    have hHi2 : hi * 2 ^ S + lo / 2 ^ (64 - S) < Y := by
      have h1 := Nat.mul_le_mul_right (2 ^ S) (show hi + 1 ≤ y by omega)
      rw [Nat.add_mul, Nat.one_mul] at h1
      rw [← EY.out]
      omega
    have hHi : hi * 2 ^ S < 18446744073709551616 := Nat.lt_of_le_of_lt (Nat.le_add_right _ _) (Nat.lt_trans hHi2 EB.out.2.2.2)
    have hU : bits .or .u64 (IntKind.u64.wrap ((hi : Int) * 2 ^ S)) ((lo : Int) / 2 ^ (64 - S)) = ((hi * 2 ^ S + lo / 2 ^ (64 - S) : Nat) : Int) := by
      rw [pow_n, pow_n, mul_n, wrap_n _ hHi, ← Int.natCast_ediv, bits_or_u64_nat _ _ hHi (Nat.lt_of_le_of_lt (Nat.div_le_self _ _) hlo), nat_join S _ _ (Nat.mul_mod_left _ _) m2]
    have hUlt : Hid (hi * 2 ^ S + lo / 2 ^ (64 - S) < A * 4294967296 + B) := by
      show _ < _
      rw [← hYe0]
      exact hHi2
    have hL : IntKind.u64.wrap ((lo : Int) * 2 ^ S) = ((lo * 2 ^ S % 18446744073709551616 : Nat) : Int) := by
      rw [pow_n, mul_n, wrap_m]
    clear hHi hHi2 hYe0
    generalize hi * 2 ^ S + lo / 2 ^ (64 - S) = U at hU hUlt m1
    generalize hW : lo * 2 ^ S % 18446744073709551616 = W at hL m1
    have hWl : W < 18446744073709551616 := by rw [← hW]; exact Nat.mod_lt _ (by decide)
    have hD1 : (W : Int) / 4294967296 = ((W / 4294967296 : Nat) : Int) := by omega
    have hD0 : bits .and .u64 (W : Int) 4294967295 = ((W % 4294967296 : Nat) : Int) := mask_n W hWl
    obtain ⟨D1, e1⟩ : ∃ D, W / 4294967296 = D := ⟨_, rfl⟩
    obtain ⟨D0, e0⟩ : ∃ D, W % 4294967296 = D := ⟨_, rfl⟩
    rw [e1] at hD1
    rw [e0] at hD0
    have HM : Hid (U * 18446744073709551616 + (D1 * 4294967296 + D0) = (hi * 18446744073709551616 + lo) * 2 ^ S ∧ D1 < 4294967296 ∧ D0 < 4294967296) := by
      refine ⟨?_, by omega, by omega⟩
      rw [← m1]; omega
    have hA2 : (0 : Int) < (A : Int) := by have := EB.out.2.2.1; omega
    clear hW hWl e1 e0 m1 m2
    obtain ⟨R, hR⟩ : ∃ R : Value, Value.tuple #[V ((hi * 18446744073709551616 + lo) / y), V ((hi * 18446744073709551616 + lo) % y)] = R := ⟨_, rfl⟩
    have HR : Hid (Value.tuple #[V ((hi * 18446744073709551616 + lo) / y), V ((hi * 18446744073709551616 + lo) % y)] = R) := hR
    rw [hR]
    have Hy : Hid (0 < y) := by show 0 < y; omega
    clear hR hy hlo hlt
    obtain ⟨hM, hD1l, hD0l⟩ := HM.out
    obtain ⟨hYe, hBl, hAl, hYl⟩ := EB.out
    obtain ⟨Q, P, R0, hQ, hQw, hPw, hRw, hI0⟩ := first_wrap U D1 A B hUlt.out hD1l hBl hAl (by omega)
    have hI : Hid (Rn U D1 A B Q R0) := hI0
    clear hI0
    have Hc : Hid (D1 < 4294967296 ∧ D0 < 4294967296 ∧ Y = A * 4294967296 + B ∧ B < 4294967296 ∧ 2147483648 ≤ A ∧ Y < 18446744073709551616 ∧ U < Y) := ⟨hD1l, hD0l, hYe, hBl, hAl, hYl, by have := hUlt.out; omega⟩
    obtain ⟨G, E, F, a1, a2, a3, b1, b2, b3, Q2, P2, R2, g1, eG, eF, k1, k2, k3, k4, hQ2, hQw2, hPw2, hRw2, hI20, l1, l2, l3, l4, l4', j1, j2⟩ := rest_all (hi * 18446744073709551616 + lo) y S U D1 D0 A B hAl hBl (by omega) hD1l hD0l hUlt.out (by rw [← hYe]; exact EY.out.symm) hM
    rw [← hYe] at eG eF k3 l3
    have EG : Hid ((U * 4294967296 + D1) / Y = G) := eG
    have EF : Hid ((E * 4294967296 + D0) / Y = F) := eF
    have hI2 : Hid (Rn E D0 A B Q2 R2) := hI20
    obtain ⟨X1, eX1⟩ : ∃ X, (hi * 18446744073709551616 + lo) / y = X := ⟨_, rfl⟩
    obtain ⟨X2, eX2⟩ : ∃ X, (hi * 18446744073709551616 + lo) % y = X := ⟨_, rfl⟩
    rw [eX1] at j2
    rw [eX2] at l4 l4'
    have HX : Hid (Value.tuple #[V X1, V X2] = R) := by
      show _ = _
      rw [← eX1, ← eX2]; exact HR
    clear hD1l hD0l hYe hBl hAl hYl hM eG eF hI20 eX1 eX2 HR
    go_enter Try.func31, Try.ntmps31
    go_wp2_with fail
    refine hl.mono ?_
    rintro e w1 ⟨rfl, rfl⟩
    go_upto_block 0 with fail
    go_cut [15] (fun s15 wx => s15 = V ((U * 4294967296 + D1) / Y) ∧ wx = w1)
    case first =>
      go_wp2_with fail
      go_loopg [15, 16] Q (fun g a b wr => wr = w1 ∧ ∃ q r : Nat, q = g ∧ a = V q ∧ b = V r ∧ Hid (Rn U D1 A B q r))
      case atStart => exact ⟨rfl, Q, R0, rfl, rfl, rfl, hI⟩
      case round =>
        obtain ⟨ew, q, r, rfl, rfl, rfl, hRn⟩ := hrel
        subst ew
        clear hQw hPw hRw hI hl hQ k1 k2 k3 k4 hQ2 hQw2 hPw2 hRw2 hI2 l1 l2 l3 l4 l4' j1 j2
        by_cases hm : U * 4294967296 + D1 < q * (A * 4294967296 + B)
        · obtain ⟨n1, n2, n3, n4, n5⟩ := hRn.out.next hm
          obtain ⟨q1, eq1⟩ : ∃ q1, q - 1 = q1 := ⟨_, rfl⟩
          obtain ⟨r1, er1⟩ : ∃ r1, r + A = r1 := ⟨_, rfl⟩
          rw [eq1] at n1 n3 n4 n5
          rw [er1] at n2 n4 n5
          have N3 : Hid (q1 < q) := n3
          have N4 : Hid (r1 < 4294967296 → Rn U D1 A B q1 r1) := n4
          have N5 : Hid (4294967296 ≤ r1 → q1 = (U * 4294967296 + D1) / (A * 4294967296 + B)) := n5
          clear n3 n4 n5 eq1 er1
          have fin : ∀ (h : (4294967296 : Int) ≤ (r1 : Int)), q1 = (U * 4294967296 + D1) / (A * 4294967296 + B) := fun h => N5.out (by omega)
          have Fin : Hid (∀ (h : (4294967296 : Int) ≤ (r1 : Int)), q1 = (U * 4294967296 + D1) / (A * 4294967296 + B)) := fin
          have Nxt : Hid (∀ (h : ¬ (4294967296 : Int) ≤ (r1 : Int)), Rn U D1 A B q1 r1) := fun h => N4.out (by omega)
          clear fin N4 N5
          by_cases hQ : (4294967296 : Int) ≤ (q : Int)
          · clear hm
            by_cases hR1 : (4294967296 : Int) ≤ (r1 : Int)
            · go_wp2
              go_meet
              case rel => exact ⟨by rw [Fin.out hR1, ← Hc.out.2.2.1], rfl⟩
            · go_wp2
              go_roundg q1
              case measure => exact N3.out
              case rel => exact ⟨rfl, q1, r1, rfl, rfl, rfl, Nxt.out hR1⟩
          · obtain ⟨t1, t2, t3⟩ := hRn.out.test (by omega)
            rw [dv_more hRn.out.dv] at hm
            obtain ⟨X, eX⟩ : ∃ X, q * B = X := ⟨_, rfl⟩
            obtain ⟨Z, eZ⟩ : ∃ Z, r * 4294967296 = Z := ⟨_, rfl⟩
            obtain ⟨T, eT⟩ : ∃ T, Z + D1 = T := ⟨_, rfl⟩
            rw [eX] at t1 hm
            rw [eZ] at t2 t3 hm
            rw [eT] at t3 hm
            have hm' : (T : Int) < (X : Int) := by omega
            clear hm eX eZ eT
            by_cases hR1 : (4294967296 : Int) ≤ (r1 : Int)
            · go_wp2
              go_meet
              case rel => exact ⟨by rw [Fin.out hR1, ← Hc.out.2.2.1], rfl⟩
            · go_wp2
              go_roundg q1
              case measure => exact N3.out
              case rel => exact ⟨rfl, q1, r1, rfl, rfl, rfl, Nxt.out hR1⟩
        · have hq := dv_done hRn.out.dv hm
          have hlt : ¬ (4294967296 : Int) ≤ (q : Int) := by
            have := quot_lt hRn.out.bu hRn.out.bd
            rw [← hq] at this; omega
          have Hq : Hid (q = (U * 4294967296 + D1) / (A * 4294967296 + B)) := hq
          obtain ⟨t1, t2, t3⟩ := hRn.out.test (by omega)
          rw [dv_more hRn.out.dv] at hm
          obtain ⟨X, eX⟩ : ∃ X, q * B = X := ⟨_, rfl⟩
          obtain ⟨Z, eZ⟩ : ∃ Z, r * 4294967296 = Z := ⟨_, rfl⟩
          obtain ⟨T, eT⟩ : ∃ T, Z + D1 = T := ⟨_, rfl⟩
          rw [eX] at t1 hm
          rw [eZ] at t2 t3 hm
          rw [eT] at t3 hm
          have hm' : ¬ (T : Int) < (X : Int) := by omega
          clear hm eX eZ eT hq
          go_wp2
          go_meet
          case rel => exact ⟨by rw [Hq.out, ← Hc.out.2.2.1], rfl⟩
    case rest =>
      obtain ⟨hr, rfl⟩ := hcut
      rw [EG.out] at hr
      subst hr
      clear hQw hPw hRw hI hl hQ
      go_upto_block 2 with fail
      go_cut [18] (fun s18 wx => s18 = V F ∧ wx = wc)
      case first =>
        go_wp2_with fail
        go_loopg [18, 16] Q2 (fun g a b wr => wr = wc ∧ ∃ q r : Nat, q = g ∧ a = V q ∧ b = V r ∧ Hid (Rn E D0 A B q r))
        case atStart => exact ⟨rfl, Q2, R2, rfl, rfl, rfl, hI2⟩
        case round =>
          obtain ⟨ew, q, r, rfl, rfl, rfl, hRn⟩ := hrel
          subst ew
          clear hQw2 hPw2 hRw2 hI2 hQ2 l1 l2 l3 l4 l4' j1 j2
          by_cases hm : E * 4294967296 + D0 < q * (A * 4294967296 + B)
          · obtain ⟨n1, n2, n3, n4, n5⟩ := hRn.out.next hm
            obtain ⟨q1, eq1⟩ : ∃ q1, q - 1 = q1 := ⟨_, rfl⟩
            obtain ⟨r1, er1⟩ : ∃ r1, r + A = r1 := ⟨_, rfl⟩
            rw [eq1] at n1 n3 n4 n5
            rw [er1] at n2 n4 n5
            have N3 : Hid (q1 < q) := n3
            have N4 : Hid (r1 < 4294967296 → Rn E D0 A B q1 r1) := n4
            have N5 : Hid (4294967296 ≤ r1 → q1 = (E * 4294967296 + D0) / (A * 4294967296 + B)) := n5
            clear n3 n4 n5 eq1 er1
            have fin : ∀ (h : (4294967296 : Int) ≤ (r1 : Int)), q1 = (E * 4294967296 + D0) / (A * 4294967296 + B) := fun h => N5.out (by omega)
            have Fin : Hid (∀ (h : (4294967296 : Int) ≤ (r1 : Int)), q1 = (E * 4294967296 + D0) / (A * 4294967296 + B)) := fin
            have Nxt : Hid (∀ (h : ¬ (4294967296 : Int) ≤ (r1 : Int)), Rn E D0 A B q1 r1) := fun h => N4.out (by omega)
            clear fin N4 N5
            by_cases hQ : (4294967296 : Int) ≤ (q : Int)
            · clear hm
              by_cases hR1 : (4294967296 : Int) ≤ (r1 : Int)
              · go_wp2
                go_meet
                case rel => exact ⟨by rw [Fin.out hR1, ← Hc.out.2.2.1, EF.out], rfl⟩
              · go_wp2
                go_roundg q1
                case measure => exact N3.out
                case rel => exact ⟨rfl, q1, r1, rfl, rfl, rfl, Nxt.out hR1⟩
            · obtain ⟨t1, t2, t3⟩ := hRn.out.test (by omega)
              rw [dv_more hRn.out.dv] at hm
              obtain ⟨X, eX⟩ : ∃ X, q * B = X := ⟨_, rfl⟩
              obtain ⟨Z, eZ⟩ : ∃ Z, r * 4294967296 = Z := ⟨_, rfl⟩
              obtain ⟨T, eT⟩ : ∃ T, Z + D0 = T := ⟨_, rfl⟩
              rw [eX] at t1 hm
              rw [eZ] at t2 t3 hm
              rw [eT] at t3 hm
              have hm' : (T : Int) < (X : Int) := by omega
              clear hm eX eZ eT
              by_cases hR1 : (4294967296 : Int) ≤ (r1 : Int)
              · go_wp2
                go_meet
                case rel => exact ⟨by rw [Fin.out hR1, ← Hc.out.2.2.1, EF.out], rfl⟩
              · go_wp2
                go_roundg q1
                case measure => exact N3.out
                case rel => exact ⟨rfl, q1, r1, rfl, rfl, rfl, Nxt.out hR1⟩
          · have hq := dv_done hRn.out.dv hm
            have hlt : ¬ (4294967296 : Int) ≤ (q : Int) := by
              have := quot_lt hRn.out.bu hRn.out.bd
              rw [← hq] at this; omega
            have Hq : Hid (q = (E * 4294967296 + D0) / (A * 4294967296 + B)) := hq
            obtain ⟨t1, t2, t3⟩ := hRn.out.test (by omega)
            rw [dv_more hRn.out.dv] at hm
            obtain ⟨X, eX⟩ : ∃ X, q * B = X := ⟨_, rfl⟩
            obtain ⟨Z, eZ⟩ : ∃ Z, r * 4294967296 = Z := ⟨_, rfl⟩
            obtain ⟨T, eT⟩ : ∃ T, Z + D0 = T := ⟨_, rfl⟩
            rw [eX] at t1 hm
            rw [eZ] at t2 t3 hm
            rw [eT] at t3 hm
            have hm' : ¬ (T : Int) < (X : Int) := by omega
            clear hm eX eZ eT hq
            go_wp2
            go_meet
            case rel => exact ⟨by rw [Hq.out, ← Hc.out.2.2.1, EF.out], rfl⟩
      case rest =>
        obtain ⟨rfl, rfl⟩ := hcut
        clear hQw2 hPw2 hRw2 hI2 hQ2
        go_wp2
        go_ret2
        exact ⟨congrArg Ending.returned HX.out, Up.refl _⟩
end Go.Proofs.Ytknanpnbpmmlgaa
