/- sat's calls for gcra: what Product, Plus, Of, Narrow, Cmp, Add and Sub answer (SatMul, SatCalls, SatCalls2 without the calls that this cut doesn't hold). -/
import Derived.Test.YtdddfapelencoaaDoorLib
import Derived.Test.YtdddfapelencoaaDoorSatNum
import Derived.Test.YtdddfapelencoaaDoorProg
import Derived.Laws.Externs
import Derived.Laws.Bits64b
import Derived.Laws.Shifts
import Derived.Lib.Mul64
import GoSem.Extern.MathBitsCarry
set_option linter.unusedVariables false
namespace Go.Proofs.YtdddfapelencoaaDoor
open Go Go.RowKit

/-- A number of 64 bits as a value. -/
abbrev V (n : Nat) : Value := .int .u64 (n : Int)

theorem add64_run (x y c : Nat) (hc : c ≤ 1) (w : World) :
    (callFunc 89 #[V x, V y, V c]).run Tryd.prog w = .ok (.value (.tuple #[V ((x + y + c) % 18446744073709551616), V ((x + y + c) / 18446744073709551616)])) w := by
  rw [run_callFunc_extern Tryd.func89 (by kernel_rfl) (by kernel_rfl) (by kernel_rfl) (e := (Extern.MathBitsCarry.rows[0]!).2) (by kernel_rfl)]
  have : c = 0 ∨ c = 1 := by omega
  rcases this with rfl | rfl <;> rfl

theorem mask_n (a : Nat) (ha : a < 18446744073709551616) : bits .and .u64 (a : Int) 4294967295 = ((a % 4294967296 : Nat) : Int) := by
  have h := bits_and_u64_nat a 4294967295 ha (by omega)
  have e : a &&& 4294967295 = a % 4294967296 := Nat.and_two_pow_sub_one_eq_mod a 32
  rw [e] at h
  exact h
theorem div_n (a : Nat) : (a : Int) / 4294967296 = ((a / 4294967296 : Nat) : Int) := by omega
theorem mul_n (a b : Nat) : (a : Int) * (b : Int) = ((a * b : Nat) : Int) := (Int.natCast_mul a b).symm
theorem add_n (a b : Nat) : (a : Int) + (b : Int) = ((a + b : Nat) : Int) := (Int.natCast_add a b).symm
theorem wrap_n (a : Nat) (ha : a < 18446744073709551616) : IntKind.u64.wrap (a : Int) = (a : Int) := by rw [IntKind.wrap_u64]; omega
theorem wrap_m (a : Nat) : IntKind.u64.wrap (a : Int) = ((a % 18446744073709551616 : Nat) : Int) := by rw [IntKind.wrap_u64]; omega

set_option maxHeartbeats 1000000 in
theorem Mul64_any (x y : Nat) (hx : x < 18446744073709551616) (hy : y < 18446744073709551616) (w : World) :
    Calls Tryd.prog 88 #[V x, V y] w fun e w' => e = .returned (.tuple #[V (hiN (x * y)), V (loN (x * y))]) ∧ w' = w := by
  show Calls Tryd.prog 88 #[V x, V y] w fun e w' => e = .returned (.tuple #[V (x * y / 18446744073709551616), V (x * y % 18446744073709551616)]) ∧ w' = w
  obtain ⟨bd, bt, bw, hhi⟩ := Lib.mul64_hi x y hx hy
  have ba := Lib.half_mul_le (a := x / 4294967296) (b := y / 4294967296) (by omega) (by omega)
  have bb := Lib.half_mul_le (a := x / 4294967296) (b := y % 4294967296) (by omega) (by omega)
  have bc := Lib.half_mul_le (a := x % 4294967296) (b := y / 4294967296) (by omega) (by omega)
  have ba' : x / 4294967296 * (y / 4294967296) < 18446744073709551616 := by omega
  have bb' : x / 4294967296 * (y % 4294967296) < 18446744073709551616 := by omega
  have bc' : x % 4294967296 * (y / 4294967296) < 18446744073709551616 := by omega
  have bh1 : x / 4294967296 * (y / 4294967296) + (x / 4294967296 * (y % 4294967296) + x % 4294967296 * (y % 4294967296) / 4294967296) / 4294967296 < 18446744073709551616 := by omega
  have bh : x / 4294967296 * (y / 4294967296) + (x / 4294967296 * (y % 4294967296) + x % 4294967296 * (y % 4294967296) / 4294967296) / 4294967296 + ((x / 4294967296 * (y % 4294967296) + x % 4294967296 * (y % 4294967296) / 4294967296) % 4294967296 + x % 4294967296 * (y / 4294967296)) / 4294967296 < 18446744073709551616 := by omega
  go_enter Tryd.func88, Tryd.ntmps88
  go_wp2
  simp only [mask_n x hx, mask_n y hy, div_n, mul_n, add_n, wrap_n _ bd, wrap_n _ bb', wrap_n _ bt, mask_n _ bt, wrap_n _ bc', wrap_n _ bw, wrap_n _ ba', wrap_n _ bh1, wrap_n _ bh, wrap_m (x * y)]
  rw [hhi]
  go_ret2
  exact ⟨rfl, rfl⟩


/-- A number of 128 bits as a value of sat's Wide. -/
abbrev Wd (n : Nat) : Value := .agg #[V (hiN n), V (loN n)]

/-- The bounds of the numbers. -/
abbrev N64 (n : Nat) : Prop := n < 18446744073709551616
abbrev N128 (n : Nat) : Prop := n < 340282366920938463463374607431768211456

def plusN (a b : Nat) : Nat := if a + b < 340282366920938463463374607431768211456 then a + b else 340282366920938463463374607431768211455
def minusN (a b : Nat) : Nat := a - b
def cmpN (a b : Nat) : Int := if a < b then -1 else if a = b then 0 else 1

theorem plus_lt (a b : Nat) : N128 (plusN a b) := by unfold plusN N128; split <;> omega
theorem minus_lt (a b : Nat) (h : N128 a) : N128 (minusN a b) := by unfold minusN N128 at *; omega

/-- The two additions of halves. -/
theorem plus_halves (a b : Nat) (ha : N128 a) (hb : N128 b) : ∃ L C H O : Nat, C ≤ 1 ∧
    (loN a + loN b + 0) % 18446744073709551616 = L ∧ (loN a + loN b + 0) / 18446744073709551616 = C ∧ (hiN a + hiN b + C) % 18446744073709551616 = H ∧ (hiN a + hiN b + C) / 18446744073709551616 = O ∧
    (O = 1 ∧ plusN a b = 340282366920938463463374607431768211455 ∨ O = 0 ∧ hiN (plusN a b) = H ∧ loN (plusN a b) = L) := by
  refine ⟨_, _, _, _, ?_, rfl, rfl, rfl, rfl, ?_⟩
  · have := lo_lt a; have := lo_lt b; omega
  · unfold plusN hiN loN N128 at *
    split <;> omega

theorem up3 (w : World) (a b c : Obj) : Up w (((w.alloc a).alloc b).alloc c) := (Up.alloc _ _).trans ((Up.alloc _ _).trans (Up.alloc _ _))
theorem up2 (w : World) (a b : Obj) : Up w ((w.alloc a).alloc b) := (Up.alloc _ _).trans (Up.alloc _ _)

theorem wd_top : Wd 340282366920938463463374607431768211455 = .agg #[.int .u64 18446744073709551615, .int .u64 18446744073709551615] := rfl
theorem wd_zero : Wd 0 = .agg #[.int .u64 0, .int .u64 0] := rfl

set_option maxHeartbeats 400000 in
theorem Plus_any (a b : Nat) (ha : N128 a) (hb : N128 b) (w : World) :
    Calls Tryd.prog 83 #[Wd a, Wd b] w fun e w' => e = .returned (Wd (plusN a b)) ∧ Up w w' := by
  obtain ⟨L, C, H, O, hC, e1, e2, e3, e4, h⟩ := plus_halves a b ha hb
  have s1 := fun w => add64_run (loN a) (loN b) 0 (by omega) w
  have s2 := fun w => add64_run (hiN a) (hiN b) C hC w
  rw [e1, e2] at s1
  rw [e3, e4] at s2
  rw [show V 0 = Value.int .u64 0 from rfl] at s1
  clear e1 e2 e3 e4 hC ha hb
  rcases h with ⟨rfl, hp⟩ | ⟨rfl, h1, h2⟩
  · rw [hp, wd_top]
    clear hp
    go_enter Tryd.func83, Tryd.ntmps83
    go_wp2_with (simp only [s1, s2])
    exact bodyPost_ret (v := .agg #[.int .u64 18446744073709551615, .int .u64 18446744073709551615]) (by simp [results, Tryd.results83, go_sem]) rfl ⟨rfl, up3 _ _ _ _⟩
  · have hW : Wd (plusN a b) = .agg #[V H, V L] := by simp only [Wd, h1, h2]
    rw [hW]
    clear h1 h2 hW
    go_enter Tryd.func83, Tryd.ntmps83
    go_wp2_with (simp only [s1, s2])
    exact bodyPost_ret (v := .agg #[V H, V L]) (by simp [results, Tryd.results83, go_sem]) rfl ⟨rfl, up3 _ _ _ _⟩

theorem Of_any (x : Nat) (hx : N64 x) (w : World) : Calls Tryd.prog 84 #[V x] w fun e w' => e = .returned (Wd x) ∧ Up w w' := by
  have hW : Wd x = .agg #[.int .u64 0, V x] := by
    have e1 : hiN x = 0 := by unfold hiN N64 at *; omega
    have e2 : loN x = x := by unfold loN N64 at *; omega
    simp only [Wd, e1, e2]; rfl
  rw [hW]
  clear hW hx
  go_enter Tryd.func84, Tryd.ntmps84
  go_wp2
  exact bodyPost_ret (v := .agg #[.int .u64 0, V x]) (by simp [results, Tryd.results84, go_sem]) rfl ⟨rfl, Up.alloc _ _⟩

theorem mul_lt (a b : Nat) (ha : N64 a) (hb : N64 b) : N128 (a * b) := by
  unfold N64 N128 at *
  have := Nat.mul_le_mul (show a ≤ 18446744073709551615 by omega) (show b ≤ 18446744073709551615 by omega)
  omega

theorem Product_any (a b : Nat) (ha : N64 a) (hb : N64 b) (w : World) : Calls Tryd.prog 82 #[V a, V b] w fun e w' => e = .returned (Wd (a * b)) ∧ Up w w' := by
  have hm := Mul64_any a b ha hb
  clear ha hb
  generalize a * b = p at hm ⊢
  go_enter Tryd.func82, Tryd.ntmps82
  go_wp2_with fail
  refine (hm _).mono ?_
  rintro e w1 ⟨rfl, rfl⟩
  go_wp2
  exact bodyPost_ret (v := Wd p) (by simp [results, Tryd.results82, go_sem]) rfl ⟨rfl, Up.alloc _ _⟩

/-- What Narrow answers. -/
abbrev nwV (n : Nat) : Value := if n < 18446744073709551616 then .tuple #[V n, .bool true] else .tuple #[.int .u64 0, .bool false]

theorem Narrow_fits (a : Nat) (ha : N64 a) (w : World) : Calls Tryd.prog 85 #[Wd a] w fun e w' => e = .returned (.tuple #[V a, .bool true]) ∧ Up w w' := by
  have hW : Wd a = .agg #[.int .u64 0, V a] := by
    have e1 : hiN a = 0 := by unfold hiN N64 at *; omega
    have e2 : loN a = a := by unfold loN N64 at *; omega
    simp only [Wd, e1, e2]; rfl
  rw [hW]
  clear hW ha
  go_enter Tryd.func85, Tryd.ntmps85
  go_wp2
  go_ret2
  exact ⟨rfl, Up.alloc _ _⟩

theorem Narrow_not (a : Nat) (ha : 18446744073709551616 ≤ a) (w : World) : Calls Tryd.prog 85 #[Wd a] w fun e w' => e = .returned (.tuple #[.int .u64 0, .bool false]) ∧ Up w w' := by
  have h : (0 : Int) < (hiN a : Int) := by unfold hiN; omega
  clear ha
  go_enter Tryd.func85, Tryd.ntmps85
  go_wp2
  go_ret2
  exact ⟨rfl, Up.alloc _ _⟩


theorem Sub_any (a b : Nat) (ha : N64 a) (w : World) : Calls Tryd.prog 77 #[V a, V b] w fun e w' => e = .returned (V (a - b)) ∧ w' = w := by
  by_cases h : b ≤ a
  · obtain ⟨c, rfl⟩ := Nat.le.dest h
    have e : b + c - b = c := by omega
    have hw : IntKind.u64.wrap (((b + c : Nat) : Int) - (b : Int)) = (c : Int) := by rw [IntKind.wrap_u64]; unfold N64 at ha; omega
    have hn : ¬ ((b + c : Nat) : Int) < (b : Int) := by omega
    rw [e]
    generalize b + c = a at *
    clear e h ha
    go_enter Tryd.func77, Tryd.ntmps77
    go_wp2
    go_ret
    exact ⟨rfl, rfl⟩
  · have e : a - b = 0 := by omega
    have hn : (a : Int) < (b : Int) := by omega
    rw [e]
    clear e h ha
    go_enter Tryd.func77, Tryd.ntmps77
    go_wp2
    go_ret
    exact ⟨rfl, rfl⟩

def addN (a b : Nat) : Nat := if a + b < 18446744073709551616 then a + b else 18446744073709551615
def mulN64 (a b : Nat) : Nat := if a * b < 18446744073709551616 then a * b else 18446744073709551615

theorem Add_any (a b : Nat) (ha : N64 a) (hb : N64 b) (w : World) : Calls Tryd.prog 78 #[V a, V b] w fun e w' => e = .returned (V (addN a b)) ∧ w' = w := by
  obtain ⟨r, hr⟩ : ∃ r, 18446744073709551615 - a = r := ⟨_, rfl⟩
  have hrw : IntKind.u64.wrap (18446744073709551615 - (a : Int)) = (r : Int) := by rw [IntKind.wrap_u64]; unfold N64 at ha; omega
  unfold N64 at ha hb
  by_cases h : a + b < 18446744073709551616
  · have e : addN a b = a + b := if_pos h
    have hw : IntKind.u64.wrap ((a : Int) + (b : Int)) = ((a + b : Nat) : Int) := by rw [IntKind.wrap_u64]; omega
    have hn : ¬ (r : Int) < (b : Int) := by omega
    rw [e]
    generalize a + b = s at hw ⊢
    clear e h ha hb hr
    go_enter Tryd.func78, Tryd.ntmps78
    go_wp2
    go_ret
    exact ⟨rfl, rfl⟩
  · have e : addN a b = 18446744073709551615 := if_neg h
    have hn : (r : Int) < (b : Int) := by omega
    rw [e]
    clear e h ha hb hr
    go_enter Tryd.func78, Tryd.ntmps78
    go_wp2
    go_ret
    exact ⟨rfl, rfl⟩

theorem Mul_any (a b : Nat) (ha : N64 a) (hb : N64 b) (w : World) : Calls Tryd.prog 86 #[V a, V b] w fun e w' => e = .returned (V (mulN64 a b)) ∧ Up w w' := by
  have hp := Product_any a b ha hb w
  have c : mulN64 a b = if a * b < 18446744073709551616 then a * b else 18446744073709551615 := rfl
  generalize a * b = p at hp c
  by_cases h : p < 18446744073709551616
  · rw [c, if_pos h]
    have hn := Narrow_fits p h
    clear h c ha hb
    go_enter Tryd.func86, Tryd.ntmps86
    go_wp2_with fail
    refine hp.mono ?_
    rintro e w1 ⟨rfl, hu⟩
    go_wp2_with fail
    refine (hn _).mono ?_
    rintro e w2 ⟨rfl, hu2⟩
    go_wp2
    go_ret
    exact ⟨rfl, hu.trans hu2⟩
  · rw [c, if_neg h]
    have hn := Narrow_not p (by omega)
    clear h c ha hb
    go_enter Tryd.func86, Tryd.ntmps86
    go_wp2_with fail
    refine hp.mono ?_
    rintro e w1 ⟨rfl, hu⟩
    go_wp2_with fail
    refine (hn _).mono ?_
    rintro e w2 ⟨rfl, hu2⟩
    go_wp2
    go_ret
    exact ⟨rfl, hu.trans hu2⟩

theorem bcell {W w1 : World} (hb : Below W.heap.size W w1) : (∀ b o, b < W.heap.size → w1.cell? ⟨b, o, none⟩ = W.cell? ⟨b, o, none⟩) ∧ (∀ b o, b < W.heap.size → w1.frozen? ⟨b, o, none⟩ = W.frozen? ⟨b, o, none⟩) :=
  ⟨fun b o h => hb.cell (p := ⟨b, o, none⟩) h, fun b o h => hb.frozen (p := ⟨b, o, none⟩) h⟩
theorem Up.drewN (w : World) (n : Nat) : Up w (w.drewN n) := ⟨rfl, rfl, rfl, Nat.le_refl _, fun _ _ => rfl⟩
end Go.Proofs.YtdddfapelencoaaDoor
