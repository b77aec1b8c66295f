/- Merged: Lib, SatNum. -/
import Derived.WalkKit
import Derived.WalkLawsBesides
import Derived.Laws.AppendOwnNone
import Derived.Laws.CopyOwn
namespace Go.Proofs.YtcllenlpoknakaaDoor
open Go Go.RowKit

/-- A byte as a value. -/
abbrev B (c : UInt8) : Value := .int .u8 (c.toNat : Int)

/-- The bytes bs lie at the cells from ⟨b, o⟩ on. -/
def At (w : World) (b o : Nat) (bs : List UInt8) : Prop := ∀ i (h : i < bs.length), w.cell? ⟨b, o + i, none⟩ = some (B bs[i])

/-- The slice v reads as the bytes bs; they lie in a block from base on. -/
def Sl (base : Nat) (w : World) (v : Value) (bs : List UInt8) : Prop :=
  ∃ ao cap, v = .slice ao bs.length cap ∧ bs.length ≤ cap ∧ (ao = none → cap = 0) ∧ (bs ≠ [] → ∃ b o, ao = some ⟨b, o, none⟩ ∧ base ≤ b ∧ At w b o bs)

/-- Behind w' all blocks of w are as they were. -/
abbrev Up (w w' : World) : Prop := Below w.heap.size w w'

theorem Up.refl (w : World) : Up w w := Below.refl _ w
theorem Up.trans {a b c : World} (h : Up a b) (k : Up b c) : Up a c := Below.trans h (k.mono h.size)
theorem Up.alloc (w : World) (o : Obj) : Up w (w.alloc o) := (Below.refl _ w).alloc (Nat.le_refl _) o
theorem Up.drew (w : World) : Up w w.drew := (Below.refl _ w).drew

theorem At.lt {w : World} {b o : Nat} {bs : List UInt8} (h : At w b o bs) (hn : bs ≠ []) : b < w.heap.size := by
  have hl : 0 < bs.length := List.length_pos_iff.2 hn
  exact World.block_lt_of_cell? w _ (h 0 hl)

theorem At.up {w w' : World} {b o : Nat} {bs : List UInt8} (h : At w b o bs) (hu : Up w w') : At w' b o bs := by
  intro i hi
  have hb := h.lt (by intro e; simp [e] at hi)
  rw [hu.cell hb]
  exact h i hi

theorem Sl.up {base : Nat} {w w' : World} {v : Value} {bs : List UInt8} (h : Sl base w v bs) (hu : Up w w') : Sl base w' v bs := by
  obtain ⟨ao, cap, rfl, hc, hn, hx⟩ := h
  refine ⟨ao, cap, rfl, hc, hn, fun hb => ?_⟩
  obtain ⟨b, o, rfl, hbb, ha⟩ := hx hb
  exact ⟨b, o, rfl, hbb, ha.up hu⟩

theorem Sl.mono {base base' : Nat} {w : World} {v : Value} {bs : List UInt8} (h : Sl base w v bs) (hb : base' ≤ base) : Sl base' w v bs := by
  obtain ⟨ao, cap, rfl, hc, hn, hx⟩ := h
  refine ⟨ao, cap, rfl, hc, hn, fun hbs => ?_⟩
  obtain ⟨b, o, rfl, hbb, ha⟩ := hx hbs
  exact ⟨b, o, rfl, Nat.le_trans hb hbb, ha⟩

theorem Sl.nil (base : Nat) (w : World) : Sl base w (.slice none 0 0) [] := ⟨none, 0, rfl, Nat.le_refl _, fun _ => rfl, fun h => absurd rfl h⟩

/-- The list of a byte list's values. -/
abbrev Bv (bs : List UInt8) : List Value := bs.map B

theorem Bv_one (bs : List UInt8) : ∀ u ∈ Bv bs, u.oneCell' = true := by
  intro u hu
  obtain ⟨c, _, rfl⟩ := List.mem_map.1 hu
  rfl

theorem At.add {w : World} {b o : Nat} {bs : List UInt8} (h : At w b o bs) : ∀ j u, (Bv bs)[j]? = some u → w.cell? ((⟨b, o, none⟩ : Addr).add j) = some u := by
  intro j u hu
  rw [Addr.add_lit]
  obtain ⟨hj, e⟩ := List.getElem?_eq_some_iff.1 hu
  simp at hj
  rw [h j hj]
  simpa using congrArg some e

/-- A row of the call's own that holds just these bytes (and room behind them): a slice at its head. -/
def Own (w : World) (e : TypeId) (base : Nat) (v : Value) (bs : List UInt8) : Prop := w.ownsRow base e 1 v bs.length (Bv bs)

theorem Own.sl {w : World} {e : TypeId} {base : Nat} {v : Value} {bs : List UInt8} (h : Own w e base v bs) : Sl base w v bs := by
  obtain ⟨hl, ⟨rfl, hn⟩ | ⟨g, cap, cur, rfl, hb, hg, hnc, hcm, hcs, ht⟩⟩ := h
  · obtain rfl : bs = [] := List.eq_nil_of_length_eq_zero hn
    exact Sl.nil base w
  · refine ⟨some ⟨g, 0, none⟩, cap, rfl, hnc, (by intro e; cases e), fun hbs => ⟨g, 0, rfl, hb, ?_⟩⟩
    intro i hi
    rw [cell_of_row w g _ cur e (0, 0) hg]
    have : (Bv bs)[i]? = some (B bs[i]) := by simp [hi]
    rw [← ht, List.getElem?_take] at this
    split at this
    · simpa using this
    · cases this

theorem Own.nil (w : World) (e : TypeId) (base : Nat) : Own w e base (.slice none 0 0) [] := World.ownsRow_nil w base e 1

end Go.Proofs.YtcllenlpoknakaaDoor

set_option linter.unusedVariables false
namespace Go.Proofs.YtcllenlpoknakaaDoor
open Go Go.RowKit

/-- The halves of a number of 128 bits. -/
def hiN (n : Nat) : Nat := n / 18446744073709551616
def loN (n : Nat) : Nat := n % 18446744073709551616
theorem halves (n : Nat) : hiN n * 18446744073709551616 + loN n = n := by unfold hiN loN; omega
theorem lo_lt (n : Nat) : loN n < 18446744073709551616 := by unfold loN; omega
theorem hi_lt (n : Nat) (h : n < 340282366920938463463374607431768211456) : hiN n < 18446744073709551616 := by unfold hiN; omega
theorem hi_of (h l : Nat) (hl : l < 18446744073709551616) : hiN (h * 18446744073709551616 + l) = h := by unfold hiN; omega
theorem lo_of (h l : Nat) (hl : l < 18446744073709551616) : loN (h * 18446744073709551616 + l) = l := by unfold loN; omega

/-- One digit's division: the guess q, what it leaves r; the digit d comes behind u, the divisor is y1 * 2^32 + y0. -/
structure Dv (u d y1 y0 q r : Nat) : Prop where
  eq : u = q * y1 + r
  le : q ≤ 4294967297
  lt : u * 4294967296 + d < (q + 1) * (y1 * 4294967296 + y0)

theorem dv_more {u d y1 y0 q r : Nat} (h : Dv u d y1 y0 q r) : u * 4294967296 + d < q * (y1 * 4294967296 + y0) ↔ r * 4294967296 + d < q * y0 := by
  have e1 : q * (y1 * 4294967296 + y0) = q * y1 * 4294967296 + q * y0 := by rw [Nat.mul_add, Nat.mul_assoc]
  rw [e1, h.eq, Nat.add_mul]
  omega

theorem dv_first (u d y1 y0 : Nat) (hy1 : 2147483648 ≤ y1) (hy0 : y0 < 4294967296) (hu : u < y1 * 4294967296 + y0) (hd : d < 4294967296) : Dv u d y1 y0 (u / y1) (u % y1) where
  eq := by rw [Nat.mul_comm]; exact (Nat.div_add_mod u y1).symm
  le := by
    have : u / y1 < 4294967298 := by
      rw [Nat.div_lt_iff_lt_mul (by omega)]; omega
    omega
  lt := by
    have h1 := Nat.div_add_mod u y1
    have h2 := Nat.mod_lt u (show 0 < y1 by omega)
    have e : (u / y1 + 1) * (y1 * 4294967296 + y0) = (y1 * (u / y1) + y1) * 4294967296 + (u / y1 + 1) * y0 := by
      rw [Nat.mul_add, ← Nat.mul_assoc, Nat.add_mul, Nat.one_mul, Nat.mul_comm (u / y1) y1]
    rw [e]
    generalize y1 * (u / y1) = A at h1 ⊢
    generalize (u / y1 + 1) * y0 = B
    omega

theorem dv_great {u d y1 y0 q r : Nat} (hq : 4294967296 ≤ q) (hu : u < y1 * 4294967296 + y0) (hd : d < 4294967296) : u * 4294967296 + d < q * (y1 * 4294967296 + y0) := by
  have := Nat.mul_le_mul_right (y1 * 4294967296 + y0) hq
  omega

theorem dv_next {u d y1 y0 q r : Nat} (h : Dv u d y1 y0 q r) (hm : u * 4294967296 + d < q * (y1 * 4294967296 + y0)) : 0 < q ∧ Dv u d y1 y0 (q - 1) (r + y1) := by
  have h0 : 0 < q := by
    rcases Nat.eq_zero_or_pos q with e | e
    · subst e; simp at hm
    · exact e
  refine ⟨h0, ⟨?_, by have := h.le; omega, ?_⟩⟩
  · have := h.eq
    obtain ⟨p, rfl⟩ : ∃ p, q = p + 1 := ⟨q - 1, by omega⟩
    rw [this, Nat.add_mul]; simp; omega
  · rw [Nat.sub_add_cancel h0]; exact hm

/-- Where the guess isn't too great it is the quotient. -/
theorem dv_done {u d y1 y0 q r : Nat} (h : Dv u d y1 y0 q r) (hm : ¬ u * 4294967296 + d < q * (y1 * 4294967296 + y0)) : q = (u * 4294967296 + d) / (y1 * 4294967296 + y0) := by
  symm
  rw [Nat.div_eq_iff (by rcases Nat.eq_zero_or_pos (y1 * 4294967296 + y0) with e | e; · have := h.lt; rw [e] at this; simp at this
                         · exact e)]
  have := h.lt
  rw [Nat.add_mul] at this
  omega

/-- Where the rest has more than 32 bits the guess isn't too great. -/
theorem dv_out {u d y1 y0 q r : Nat} (h : Dv u d y1 y0 q r) (hq : q ≤ 4294967296) (hy0 : y0 < 4294967296) (hr : 4294967296 ≤ r) : ¬ u * 4294967296 + d < q * (y1 * 4294967296 + y0) := by
  rw [dv_more h]
  have := Nat.mul_le_mul hq (show y0 ≤ 4294967295 by omega)
  omega

theorem quot_lt {u d y : Nat} (hu : u < y) (hd : d < 4294967296) : (u * 4294967296 + d) / y < 4294967296 := by
  rw [Nat.div_lt_iff_lt_mul (by omega)]; omega

theorem quot_two (u d1 d0 y : Nat) (hy : 0 < y) :
    (u * 4294967296 + d1) / y * 4294967296 + ((u * 4294967296 + d1) % y * 4294967296 + d0) / y = (u * 18446744073709551616 + (d1 * 4294967296 + d0)) / y ∧
    ((u * 4294967296 + d1) % y * 4294967296 + d0) % y = (u * 18446744073709551616 + (d1 * 4294967296 + d0)) % y := by
  have e : u * 18446744073709551616 + (d1 * 4294967296 + d0) = (u * 4294967296 + d1) * 4294967296 + d0 := by omega
  rw [e]
  clear e
  obtain ⟨A, hA⟩ : ∃ A, u * 4294967296 + d1 = A := ⟨_, rfl⟩
  rw [hA]
  clear hA
  have h := Nat.div_add_mod A y
  have e2 : A * 4294967296 + d0 = (A % y * 4294967296 + d0) + y * (A / y * 4294967296) := by
    have h2 : y * (A / y * 4294967296) = y * (A / y) * 4294967296 := (Nat.mul_assoc _ _ _).symm
    rw [h2]
    omega
  have e3 : (A * 4294967296 + d0) / y = (A % y * 4294967296 + d0) / y + A / y * 4294967296 := by rw [e2, Nat.add_mul_div_left _ _ hy]
  have e4 : (A * 4294967296 + d0) % y = (A % y * 4294967296 + d0) % y := by rw [e2, Nat.add_mul_mod_self_left]
  exact ⟨by rw [e3]; exact Nat.add_comm _ _, e4.symm⟩

/-- Both numbers moved up by s places: the quotient stays, the remainder moves with them. -/
theorem moved (n y s : Nat) : n * 2 ^ s / (y * 2 ^ s) = n / y ∧ n * 2 ^ s % (y * 2 ^ s) / 2 ^ s = n % y := by
  have hs : 0 < 2 ^ s := Nat.two_pow_pos s
  rw [Nat.mul_div_mul_right _ _ hs, Nat.mul_mod_mul_right, Nat.mul_div_cancel _ hs]
  exact ⟨rfl, rfl⟩

/-- The bits of a number: the places up to its highest one. -/
theorem moved_up (y L : Nat) (h0 : 0 < y) (h1 : 2 ^ (L - 1) ≤ y) (h2 : y < 2 ^ L) (hL : L ≤ 64) (hL1 : 0 < L) : 9223372036854775808 ≤ y * 2 ^ (64 - L) ∧ y * 2 ^ (64 - L) < 18446744073709551616 := by
  have e1 : 2 ^ (L - 1) * 2 ^ (64 - L) = 9223372036854775808 := by rw [← Nat.pow_add, show L - 1 + (64 - L) = 63 by omega]
  have e2 : 2 ^ L * 2 ^ (64 - L) = 18446744073709551616 := by rw [← Nat.pow_add, show L + (64 - L) = 64 by omega]
  have a := Nat.mul_le_mul_right (2 ^ (64 - L)) h1
  have b := (Nat.mul_lt_mul_right (Nat.two_pow_pos (64 - L))).2 h2
  omega

/-- A number of 128 bits moved up by s places: its upper 64, its lower 64. -/
theorem moved_halves (hi lo s : Nat) (hs : s ≤ 63) (hlo : lo < 18446744073709551616) :
    (hi * 2 ^ s + lo / 2 ^ (64 - s)) * 18446744073709551616 + lo * 2 ^ s % 18446744073709551616 = (hi * 18446744073709551616 + lo) * 2 ^ s ∧ lo / 2 ^ (64 - s) < 2 ^ s := by
  have e : 2 ^ s * 2 ^ (64 - s) = 18446744073709551616 := by rw [← Nat.pow_add, show s + (64 - s) = 64 by omega]
  have h1 : lo * 2 ^ s / 18446744073709551616 = lo / 2 ^ (64 - s) := by
    rw [← e, Nat.mul_comm lo, Nat.mul_div_mul_left _ _ (Nat.two_pow_pos s)]
  have h2 := Nat.div_add_mod (lo * 2 ^ s) 18446744073709551616
  rw [h1] at h2
  constructor
  · rw [Nat.add_mul, Nat.add_mul, Nat.mul_right_comm hi]
    omega
  · rw [Nat.div_lt_iff_lt_mul (Nat.two_pow_pos _), e]; exact hlo
end Go.Proofs.YtcllenlpoknakaaDoor
