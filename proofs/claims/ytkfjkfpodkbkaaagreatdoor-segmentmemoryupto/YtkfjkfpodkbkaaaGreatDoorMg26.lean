/- Merged: Poly, Steps, Sums, Awake. -/
import Derived.Test.YtkfjkfpodkbkaaaGreatDoorMg02
import Derived.Test.YtkfjkfpodkbkaaaGreatDoorProg
import Derived.Laws.BitsAllLaws
import Derived.Laws.Shifts
import Derived.Deep.LoopGhost
import Derived.Lib.SlBytesConst
/- crc, without the program: one step of a 32-bit number, many steps, sums of single bits, products; all by linearity. Imports nothing of the program. -/
namespace Go.Proofs.YtkfjkfpodkbkaaaGreatDoor

abbrev W32 := BitVec 32
def poly : W32 := 0x82f63b78#32
/-- One step. -/
def stp (x : W32) : W32 := (x >>> 1) ^^^ (if x.getLsbD 0 then poly else 0#32)
/-- n steps. -/
def stpn : Nat → W32 → W32
  | 0, x => x
  | n + 1, x => stpn n (stp x)

/-- A map that takes sums place by place to sums. -/
def Lin (f : W32 → W32) : Prop := ∀ x y, f (x ^^^ y) = f x ^^^ f y

theorem xor4 (a b c d : W32) : (a ^^^ b) ^^^ (c ^^^ d) = (a ^^^ c) ^^^ (b ^^^ d) := by
  rw [BitVec.xor_assoc, BitVec.xor_assoc, ← BitVec.xor_assoc b c d, BitVec.xor_comm b c, BitVec.xor_assoc c b d]

theorem Lin.zero {f : W32 → W32} (h : Lin f) : f 0#32 = 0#32 := by
  have := h 0#32 0#32
  simpa using this

theorem stp_lin : Lin stp := by
  intro x y
  unfold stp
  rw [xor4]
  congr 1
  · ext i; simp
  · rw [BitVec.getLsbD_xor]
    cases x.getLsbD 0 <;> cases y.getLsbD 0 <;> simp

theorem stpn_lin (n : Nat) : Lin (stpn n) := by
  induction n with
  | zero => intro x y; rfl
  | succ n ih => intro x y; show stpn n (stp (x ^^^ y)) = _; rw [stp_lin, ih]; rfl
theorem stpn_xor (n : Nat) (x y : W32) : stpn n (x ^^^ y) = stpn n x ^^^ stpn n y := stpn_lin n x y
theorem stpn_zero (n : Nat) : stpn n 0#32 = 0#32 := (stpn_lin n).zero
theorem stpn_add (m n : Nat) (x : W32) : stpn (m + n) x = stpn m (stpn n x) := by
  induction n generalizing x with
  | zero => rfl
  | succ n ih => exact ih (stp x)
theorem stpn_comm (m n : Nat) (x : W32) : stpn m (stpn n x) = stpn n (stpn m x) := by
  rw [← stpn_add, ← stpn_add, Nat.add_comm]
theorem stp_stpn (n : Nat) (x : W32) : stp (stpn n x) = stpn (n + 1) x := by
  rw [Nat.add_comm, stpn_add]; rfl

/-! Sums of some. -/
def xs : Nat → (Nat → W32) → W32
  | 0, _ => 0#32
  | n + 1, g => xs n g ^^^ g n
theorem xs_congr (n : Nat) (g h : Nat → W32) (e : ∀ i, i < n → g i = h i) : xs n g = xs n h := by
  induction n with
  | zero => rfl
  | succ n ih => simp only [xs]; rw [ih (fun i hi => e i (by omega)), e n (by omega)]
theorem xs_lin {f : W32 → W32} (hf : Lin f) (n : Nat) (g : Nat → W32) : f (xs n g) = xs n (fun i => f (g i)) := by
  induction n with
  | zero => exact hf.zero
  | succ n ih => simp only [xs]; rw [hf, ih]
theorem xs_xor (n : Nat) (g h : Nat → W32) : xs n (fun i => g i ^^^ h i) = xs n g ^^^ xs n h := by
  induction n with
  | zero => simp [xs]
  | succ n ih => simp only [xs]; rw [ih, xor4]
theorem xs_tail (k n : Nat) (g : Nat → W32) (hkn : k ≤ n) (e : ∀ i, k ≤ i → i < n → g i = 0#32) : xs n g = xs k g := by
  induction n with
  | zero =>
    obtain rfl : k = 0 := by omega
    rfl
  | succ n ih =>
    by_cases h : k = n + 1
    · subst h; rfl
    · simp only [xs]
      rw [ih (by omega) (fun i h1 h2 => e i h1 (by omega)), e n (by omega) (by omega), BitVec.xor_zero]

/-- The single bit i. -/
def one (i : Nat) : W32 := 1#32 <<< i
theorem one_bit (i j : Nat) : (one i).getLsbD j = (decide (j < 32) && decide (i = j)) := by
  unfold one
  rw [BitVec.getLsbD_shiftLeft]
  by_cases h : j < 32 <;> by_cases h2 : i = j <;> simp [h, h2] <;> omega
theorem xs_bits (x : W32) (n : Nat) (j : Nat) : (xs n (fun i => if x.getLsbD i then one i else 0#32)).getLsbD j = (decide (j < n) && decide (j < 32) && x.getLsbD j) := by
  induction n with
  | zero => simp [xs]
  | succ n ih =>
    simp only [xs, BitVec.getLsbD_xor, ih]
    by_cases h : n = j
    · subst h
      cases hx : x.getLsbD n <;> simp [one_bit]
    · by_cases h2 : j < n
      · have : j < n + 1 := by omega
        cases hx : x.getLsbD n <;> simp [one_bit, h, h2, this]
      · have : ¬ j < n + 1 := by omega
        cases hx : x.getLsbD n <;> simp [one_bit, h, h2, this]
theorem bits_xs (x : W32) : xs 32 (fun i => if x.getLsbD i then one i else 0#32) = x := by
  apply BitVec.eq_of_getLsbD_eq
  intro i hi
  rw [xs_bits]; simp [hi]

/-- A linear map by its bits. -/
theorem Lin.bits {f : W32 → W32} (hf : Lin f) (x : W32) : f x = xs 32 (fun i => if x.getLsbD i then f (one i) else 0#32) := by
  have h := congrArg f (bits_xs x)
  rw [xs_lin hf] at h
  rw [← h]
  apply xs_congr
  intro i _
  show f (if x.getLsbD i then one i else 0#32) = _
  split
  · rfl
  · exact hf.zero
theorem lin_ext {f g : W32 → W32} (hf : Lin f) (hg : Lin g) (h : ∀ i : Fin 32, f (one i.val) = g (one i.val)) (x : W32) : f x = g x := by
  rw [hf.bits, hg.bits]
  apply xs_congr
  intro i hi
  rw [h ⟨i, hi⟩]

/-! Products. -/
def top : W32 := 0x80000000#32
/-- a times b: the highest bit of a stands for b itself, the next for a step of b, and so on. -/
def mul (a b : W32) : W32 := xs 32 (fun i => if a.getLsbD (31 - i) then stpn i b else 0#32)
theorem mul_steps (a b : W32) (n : Nat) : mul a (stpn n b) = stpn n (mul a b) := by
  unfold mul
  rw [xs_lin (stpn_lin n)]
  apply xs_congr
  intro i _
  show _ = stpn n (if a.getLsbD (31 - i) then stpn i b else 0#32)
  split
  · rw [stpn_comm]
  · exact (stpn_zero n).symm
theorem mul_lin (b : W32) : Lin (fun a => mul a b) := by
  intro x y
  show mul (x ^^^ y) b = mul x b ^^^ mul y b
  unfold mul
  rw [← xs_xor]
  apply xs_congr
  intro i _
  rw [BitVec.getLsbD_xor]
  cases x.getLsbD (31 - i) <;> cases y.getLsbD (31 - i) <;> simp
theorem mul_top (a : W32) : mul a top = a :=
  lin_ext (f := fun a => mul a top) (g := fun a => a) (mul_lin top) (fun _ _ => rfl) (by decide +kernel) a
theorem mul_power (a : W32) (n : Nat) : mul a (stpn n top) = stpn n a := by rw [mul_steps, mul_top]

/-- What multiply's loop has in the product behind k rounds. -/
def mulK (a b : W32) (k : Nat) : W32 := xs k (fun i => if a.getLsbD (31 - i) then stpn i b else 0#32)
theorem mulK_succ (a b : W32) (k : Nat) : mulK a b (k + 1) = mulK a b k ^^^ (if a.getLsbD (31 - k) then stpn k b else 0#32) := rfl
theorem shl_top (a : W32) (k : Nat) (hk : k < 32) : (a <<< k).getLsbD 31 = a.getLsbD (31 - k) := by
  rw [BitVec.getLsbD_shiftLeft]
  have : ¬ (31 < k) := by omega
  simp [this]
theorem mulK_done (a b : W32) (k : Nat) (hk : k ≤ 32) (h : a <<< k = 0#32) : mulK a b k = mul a b := by
  unfold mulK mul
  refine (xs_tail k 32 _ hk fun i h1 h2 => ?_).symm
  have := congrArg (fun x => x.getLsbD (31 - i + k)) h
  simp only [BitVec.getLsbD_shiftLeft] at this
  have e1 : 31 - i + k < 32 := by omega
  have e2 : ¬ (31 - i + k < k) := by omega
  have e3 : 31 - i + k - k = 31 - i := by omega
  simp only [e1, e2, e3] at this
  simp at this
  simp [this]

/-! The table of half bytes. -/
def halfT : List Nat := [0x00000000, 0x105ec76f, 0x20bd8ede, 0x30e349b1, 0x417b1dbc, 0x5125dad3, 0x61c69362, 0x7198540d, 0x82f63b78, 0x92a8fc17, 0xa24bb5a6, 0xb21572c9, 0xc38d26c4, 0xd3d3e1ab, 0xe330a81a, 0xf36e6f75]
def halfV (i : Nat) : W32 := BitVec.ofNat 32 (halfT.getD i 0)
def four (x : W32) : W32 := (x >>> 4) ^^^ halfV (x.toNat % 16)
theorem half_xor : ∀ a b : Fin 16, halfV ((a.val ^^^ b.val) % 16) = halfV a.val ^^^ halfV b.val := by decide +kernel
theorem four_lin : Lin four := by
  intro x y
  unfold four
  rw [xor4]
  congr 1
  · ext i; simp
  · have h := half_xor ⟨x.toNat % 16, by omega⟩ ⟨y.toNat % 16, by omega⟩
    simp only at h
    rw [← h]
    congr 1
    rw [BitVec.toNat_xor, show (16 : Nat) = 2 ^ 4 from rfl, Nat.xor_mod_two_pow, Nat.xor_mod_two_pow]
    simp
theorem four_eq (x : W32) : four x = stpn 4 x := lin_ext four_lin (stpn_lin 4) (by decide +kernel) x

/-! No two numbers step to one. -/
theorem stp_ker (x : W32) (h : stp x = 0#32) : x = 0#32 := by
  have ht := congrArg (fun z => z.getLsbD 31) h
  have hb : x.getLsbD 0 = false := by
    unfold stp at ht
    cases e : x.getLsbD 0 with
    | false => rfl
    | true => simp [e, poly] at ht
  unfold stp at h
  rw [hb] at h
  simp at h
  apply BitVec.eq_of_getLsbD_eq
  intro i hi
  cases i with
  | zero => simpa using hb
  | succ j =>
    have := congrArg (fun z => z.getLsbD j) h
    simp at this
    simpa [Nat.add_comm] using this
theorem stpn_ker (n : Nat) : ∀ x : W32, stpn n x = 0#32 → x = 0#32 := by
  induction n with
  | zero => intro x h; exact h
  | succ n ih => intro x h; exact stp_ker x (ih _ h)
theorem xor_eq_zero (x y : W32) (h : x ^^^ y = 0#32) : x = y := by
  have := congrArg (fun z => z ^^^ y) h
  simpa [BitVec.xor_assoc] using this
theorem stpn_inj (n : Nat) (x y : W32) (h : stpn n x = stpn n y) : x = y := by
  apply xor_eq_zero
  apply stpn_ker n
  rw [stpn_xor, h]; simp

/-! Bytes. -/
def byt (c : UInt8) : W32 := c.toBitVec.setWidth 32
/-- What the bytes make of x. -/
def addB (x : W32) (bs : List UInt8) : W32 := bs.foldl (fun x c => stpn 8 (x ^^^ byt c)) x
theorem addB_cons (x : W32) (c : UInt8) (bs : List UInt8) : addB x (c :: bs) = addB (stpn 8 (x ^^^ byt c)) bs := rfl
theorem addB_append (x : W32) (ys bs : List UInt8) : addB x (ys ++ bs) = addB (addB x ys) bs := by
  unfold addB; rw [List.foldl_append]
theorem addB_xor (bs : List UInt8) : ∀ x y : W32, addB (x ^^^ y) bs = addB x bs ^^^ stpn (8 * bs.length) y := by
  induction bs with
  | nil => intro x y; rfl
  | cons c r ih =>
    intro x y
    rw [addB_cons, addB_cons, BitVec.xor_assoc, BitVec.xor_comm y, ← BitVec.xor_assoc, stpn_xor, ih, ← stpn_add]
    congr 2
theorem addB_zeros (n : Nat) (x : W32) : addB x (List.replicate n 0) = stpn (8 * n) x := by
  induction n generalizing x with
  | zero => rfl
  | succ n ih =>
    rw [List.replicate_succ, addB_cons, ih, ← stpn_add]
    have : byt 0 = 0#32 := rfl
    rw [this, BitVec.xor_zero]; rfl
/-- Add: the sum s of some bytes, with bs behind them. -/
def addC (s : W32) (bs : List UInt8) : W32 := ~~~ addB (~~~ s) bs
def sumC (bs : List UInt8) : W32 := addC 0#32 bs
def ones : W32 := 0xffffffff#32
theorem not_ones (x : W32) : ~~~ x = ones ^^^ x := by
  apply BitVec.eq_of_getLsbD_eq
  intro i hi
  have : ones.getLsbD i = true := by
    show (BitVec.ofNat 32 4294967295).getLsbD i = true
    rw [show BitVec.ofNat 32 4294967295 = BitVec.allOnes 32 from rfl, BitVec.getLsbD_allOnes]; simpa using hi
  rw [BitVec.getLsbD_xor, this, BitVec.getLsbD_not]; simp [hi]
theorem addC_nil (s : W32) : addC s [] = s := by simp [addC, addB]
theorem sumC_nil : sumC [] = 0#32 := addC_nil _
theorem addC_append (s : W32) (ys bs : List UInt8) : addC s (ys ++ bs) = addC (addC s ys) bs := by
  unfold addC
  rw [addB_append, BitVec.not_not]
theorem sumC_append (ys bs : List UInt8) : sumC (ys ++ bs) = addC (sumC ys) bs := addC_append _ _ _
/-- Join: the pieces' sums, and the second one's length. -/
def joinC (s t : W32) (n : Nat) : W32 := stpn (8 * n) s ^^^ t
theorem addC_join (s : W32) (bs : List UInt8) : addC s bs = joinC s (sumC bs) bs.length := by
  unfold addC joinC sumC addC
  rw [not_ones s, addB_xor, not_ones (_ ^^^ _), not_ones (addB _ _), not_ones 0#32, BitVec.xor_zero]
  rw [← BitVec.xor_assoc, BitVec.xor_comm (stpn _ _)]

/-! Four bytes turned. -/
theorem stp_shl (y : W32) : stpn 8 (y <<< 8) = y &&& 0x00ffffff#32 :=
  lin_ext (f := fun y => stpn 8 (y <<< 8)) (g := fun y => y &&& 0x00ffffff#32)
    (by intro x y; show stpn 8 ((x ^^^ y) <<< 8) = _; rw [← stpn_xor]; congr 1; ext i; simp; cases decide (i < 8) <;> simp)
    (by intro x y; ext i; simp [Bool.and_xor_distrib_right]) (by decide +kernel) y
theorem low24 (i : Nat) : (0x00ffffff#32).getLsbD i = decide (i < 24) := by
  rw [show (0x00ffffff#32 : BitVec 32) = (BitVec.allOnes 24).setWidth 32 from by decide, BitVec.getLsbD_setWidth, BitVec.getLsbD_allOnes]
  by_cases h : i < 24
  · have : i < 32 := by omega
    simp [h, this]
  · simp [h]
theorem addB_four (x : W32) (a b c d : UInt8) : addB x [a, b, c, d] = stpn 32 (x ^^^ (byt a ^^^ ((byt b ^^^ ((byt c ^^^ (byt d <<< 8)) <<< 8)) <<< 8))) := by
  have e3 : stpn 8 (byt d <<< 8) = byt d := by
    rw [stp_shl]; apply BitVec.eq_of_getLsbD_eq; intro i hi
    have := low24 i
    rw [BitVec.getLsbD_and, this]
    by_cases h24 : i < 24
    · simp [h24]
    · have h2 : d.toBitVec.getLsbD i = false := BitVec.getLsbD_of_ge _ _ (by omega)
      simp [h24, byt, h2]
  have e2 : stpn 8 ((byt c ^^^ (byt d <<< 8)) <<< 8) = byt c ^^^ (byt d <<< 8) := by
    rw [stp_shl]; apply BitVec.eq_of_getLsbD_eq; intro i hi
    have := low24 i
    rw [BitVec.getLsbD_and, this]
    by_cases h24 : i < 24
    · simp [h24]
    · have n8 : ¬ i < 8 := by omega
      simp [h24, byt, n8]
      have h1 : c.toBitVec.getLsbD i = false := BitVec.getLsbD_of_ge _ _ (by omega)
      have h2 : d.toBitVec.getLsbD (i - 8) = false := BitVec.getLsbD_of_ge _ _ (by omega)
      simp [h1, h2]
  have e1 : stpn 8 ((byt b ^^^ ((byt c ^^^ (byt d <<< 8)) <<< 8)) <<< 8) = byt b ^^^ ((byt c ^^^ (byt d <<< 8)) <<< 8) := by
    rw [stp_shl]; apply BitVec.eq_of_getLsbD_eq; intro i hi
    have := low24 i
    rw [BitVec.getLsbD_and, this]
    by_cases h24 : i < 24
    · simp [h24]
    · have n8 : ¬ i < 8 := by omega
      have n8' : ¬ i - 8 < 8 := by omega
      simp [h24, byt, n8, n8']
      have h1 : b.toBitVec.getLsbD i = false := BitVec.getLsbD_of_ge _ _ (by omega)
      have h2 : c.toBitVec.getLsbD (i - 8) = false := BitVec.getLsbD_of_ge _ _ (by omega)
      have h3 : d.toBitVec.getLsbD (i - 8 - 8) = false := BitVec.getLsbD_of_ge _ _ (by omega)
      simp [h1, h2, h3]
  show stpn 8 (stpn 8 (stpn 8 (stpn 8 (x ^^^ byt a) ^^^ byt b) ^^^ byt c) ^^^ byt d) = _
  have e32 : ∀ z, stpn 32 z = stpn 8 (stpn 8 (stpn 8 (stpn 8 z))) := fun z => by rw [← stpn_add, ← stpn_add, ← stpn_add]
  rw [e32]
  congr 1
  rw [← BitVec.xor_assoc, stpn_xor 8 (x ^^^ byt a), e1, ← BitVec.xor_assoc, stpn_xor 8 (_ ^^^ byt b), e2, ← BitVec.xor_assoc, stpn_xor 8 (_ ^^^ byt c), e3]
theorem addB_ker4 (a b c d : UInt8) (h : addB 0#32 [a, b, c, d] = 0#32) : a = 0 ∧ b = 0 ∧ c = 0 ∧ d = 0 := by
  have key := addB_four 0#32 a b c d
  rw [BitVec.zero_xor] at key
  rw [key] at h
  have h0 := stpn_ker _ _ h
  have bit : ∀ i, (byt a ^^^ ((byt b ^^^ ((byt c ^^^ (byt d <<< 8)) <<< 8)) <<< 8)).getLsbD i = false := by intro i; rw [h0]; simp
  have Z : ∀ (x : UInt8), (∀ i, i < 8 → x.toBitVec.getLsbD i = false) → x = 0 := by
    intro x hx
    have : x.toBitVec = 0#8 := by
      apply BitVec.eq_of_getLsbD_eq
      intro i hi
      rw [hx i hi]; simp
    exact UInt8.eq_of_toBitVec_eq (by rw [this]; rfl)
  have hi8 : ∀ (x : UInt8) i, 8 ≤ i → x.toBitVec.getLsbD i = false := fun x i hi => BitVec.getLsbD_of_ge _ _ hi
  refine ⟨Z a fun i hi => ?_, Z b fun i hi => ?_, Z c fun i hi => ?_, Z d fun i hi => ?_⟩
  · have := bit i
    have e : i < 32 := by omega
    simpa [byt, hi, e] using this
  · have := bit (i + 8)
    have e : i + 8 < 32 := by omega
    have e' : i < 32 := by omega
    simpa [byt, hi, e, e', hi8 a (i + 8) (by omega)] using this
  · have := bit (i + 16)
    have e : i + 16 < 32 := by omega
    have e' : i + 8 < 32 := by omega
    have e2 : ¬ i + 16 < 8 := by omega
    have e3 : ¬ i + 8 < 8 := by omega
    have e4 : i + 16 - 8 = i + 8 := by omega
    have e5 : i + 8 - 8 = i := by omega
    have e6 : i < 32 := by omega
    simpa [byt, hi, e, e', e2, e3, e4, e5, e6, hi8 a (i + 16) (by omega), hi8 b (i + 8) (by omega)] using this
  · have := bit (i + 24)
    have e : i + 24 < 32 := by omega
    have e' : i + 16 < 32 := by omega
    have e'' : i + 8 < 32 := by omega
    have e2 : ¬ i + 24 < 8 := by omega
    have e3 : ¬ i + 16 < 8 := by omega
    have e3' : ¬ i + 8 < 8 := by omega
    have e4 : i + 24 - 8 = i + 16 := by omega
    have e5 : i + 16 - 8 = i + 8 := by omega
    have e6 : i + 8 - 8 = i := by omega
    have e7 : i < 32 := by omega
    simpa [byt, hi, e, e', e'', e2, e3, e3', e4, e5, e6, e7, hi8 a (i + 24) (by omega), hi8 b (i + 16) (by omega), hi8 c (i + 8) (by omega)] using this
end Go.Proofs.YtkfjkfpodkbkaaaGreatDoor

set_option linter.unusedVariables false
namespace Go.Proofs.YtkfjkfpodkbkaaaGreatDoor
open Go Go.RowKit

/-- A number of 32 bits as a value. -/
abbrev U (x : W32) : Value := .int .u32 (x.toNat : Int)

theorem xor_u (x y : W32) : bits .xor .u32 (x.toNat : Int) (y.toNat : Int) = ((x ^^^ y).toNat : Int) := by
  rw [u32_xor_nat _ _ x.isLt y.isLt, BitVec.toNat_xor]
theorem xor_poly (x : W32) : bits .xor .u32 (x.toNat : Int) 2197175160 = ((x ^^^ poly).toNat : Int) := xor_u x poly
theorem shr_u (x : W32) (k : Nat) : (x.toNat : Int) / (((2 : Nat) ^ k : Nat) : Int) = ((x >>> k).toNat : Int) := by
  rw [BitVec.toNat_ushiftRight, Nat.shiftRight_eq_div_pow]; simp
theorem and_u1 (x : W32) : bits .and .u32 (x.toNat : Int) 1 = ((x.toNat % 2 : Nat) : Int) := by
  have h := u32_and_nat x.toNat 1 x.isLt (by omega)
  rw [show ((1 : Nat) : Int) = 1 from rfl] at h
  rw [h, Nat.and_one_is_mod]
theorem low_odd (x : W32) : x.getLsbD 0 = decide (x.toNat % 2 = 1) := by
  rw [BitVec.getLsbD, Nat.testBit_zero]


/-- The table of half bytes lies in its package variable. -/
def Tb (w : World) : Prop := ∀ k, k < 16 → w.cell? ⟨18, k, none⟩ = some (U (halfV k))
theorem Tb.lt {w : World} (h : Tb w) : 18 < w.heap.size := World.block_lt_of_cell? w _ (h 0 (by omega))
theorem Tb.up {w w' : World} (h : Tb w) (hu : Up w w') : Tb w' := by
  intro k hk
  rw [hu.cell h.lt]
  exact h k hk

theorem and_u15 (x : W32) : bits .and .u32 (x.toNat : Int) 15 = ((x.toNat % 16 : Nat) : Int) := by
  have h := u32_and_nat x.toNat 15 x.isLt (by omega)
  rw [show ((15 : Nat) : Int) = 15 from rfl] at h
  rw [h, show (15 : Nat) = 2 ^ 4 - 1 from rfl, Nat.and_two_pow_sub_one_eq_mod]

theorem fourSteps_any (x : W32) (w : World) (ht : Tb w) : Calls Tryz.prog 205 #[U x] w fun e w' => e = .returned (U (stpn 4 x)) ∧ w' = w := by
  have hk : x.toNat % 16 < 16 := Nat.mod_lt _ (by omega)
  have hc := ht _ hk
  have ha := and_u15 x
  have hs : (x.toNat : Int) / 16 = ((x >>> 4).toNat : Int) := shr_u x 4
  have hp := xor_u (x >>> 4) (halfV (x.toNat % 16))
  rw [← hs] at hp
  rw [← four_eq]
  have hf : four x = (x >>> 4) ^^^ halfV (x.toNat % 16) := rfl
  rw [hf]
  generalize x.toNat % 16 = k at hk hc ha hp
  have hk0 : (k : Int) < 16 := by omega
  clear hk
  go_enter Tryz.func205, Tryz.ntmps205
  go_wp2
  go_ret
  exact ⟨congrArg (fun z => Ending.returned (.int .u32 z)) hp, rfl⟩

theorem shl_u (x : W32) : (x.toNat : Int) * (2 : Int) % (4294967296 : Int) = ((x <<< 1).toNat : Int) := by
  rw [BitVec.toNat_shiftLeft, Nat.shiftLeft_eq]; simp
theorem top_bit (x : W32) : (x.toNat : Int) / 2147483648 = if x.getLsbD 31 then 1 else 0 := by
  have h : x.getLsbD 31 = decide (x.toNat / 2 ^ 31 % 2 = 1) := by rw [BitVec.getLsbD, Nat.testBit_eq_decide_div_mod_eq]
  have hl := x.isLt
  rw [h]
  by_cases e : x.toNat / 2 ^ 31 % 2 = 1
  · rw [decide_eq_true e]; simp; omega
  · rw [decide_eq_false e]; simp; omega

end Go.Proofs.YtkfjkfpodkbkaaaGreatDoor

set_option linter.unusedVariables false
namespace Go.Proofs.YtkfjkfpodkbkaaaGreatDoor
open Go Go.RowKit

theorem xor_byte (x : W32) (c : UInt8) : bits .xor .u32 (x.toNat : Int) ((c.toNat : Int) % 4294967296) = ((x ^^^ byt c).toNat : Int) := by
  have h : (byt c).toNat = c.toNat := by
    show (c.toBitVec.setWidth 32).toNat = _
    rw [BitVec.toNat_setWidth]
    have := c.toNat_lt
    exact Nat.mod_eq_of_lt (by show c.toNat < _; omega)
  have hc : (c.toNat : Int) % 4294967296 = (c.toNat : Int) := by have := c.toNat_lt; omega
  rw [← xor_u, h, hc]
theorem not_u (x : W32) : bits .xor .u32 IntKind.u32.max (x.toNat : Int) = ((~~~ x).toNat : Int) := by
  have h : IntKind.u32.max = (ones.toNat : Int) := by decide
  rw [h, xor_u, ← not_ones]
theorem addB_take (x : W32) (bs : List UInt8) (k : Nat) (h : k < bs.length) : addB x (bs.take (k + 1)) = stpn 8 (addB x (bs.take k) ^^^ byt bs[k]) := by
  rw [List.take_succ_eq_append_getElem h, addB_append]; rfl

set_option maxHeartbeats 400000 in
theorem Add_any (base : Nat) (s : W32) (v : Value) (bs : List UInt8) (w : World) (ht : Tb w) (hs : Sl base w v bs) (hl : bs.length ≤ 140737488355328) :
    Calls Tryz.prog 190 #[U s, v] w fun e w' => e = .returned (U (addC s bs)) ∧ w' = w := by
  generalize hR : addC s bs = R
  have HR : Hid (addC s bs = R) := hR
  clear hR
  have hn := not_u s
  have HR' : Hid (~~~ addB (~~~ s) bs = R) := HR
  clear HR
  generalize ~~~ s = ns at hn HR'
  obtain ⟨ao, cap, rfl, hc, _, hx⟩ := hs
  go_enter Tryz.func190, Tryz.ntmps190
  go_wp2
  go_loopg [5, 12] bs.length (fun g x i wr => w = wr ∧ ∃ k : Nat, k ≤ bs.length ∧ g = bs.length - k ∧ i = .int .i64 k ∧ x = U (addB ns (bs.take k)))
  case atStart => exact ⟨rfl, 0, by omega, rfl, rfl, rfl⟩
  case round =>
    obtain ⟨rfl, k, hk, rfl, rfl, rfl⟩ := hrel
    by_cases hlt : k < bs.length
    · obtain ⟨b, o, rfl, _, hat⟩ := hx (by rintro rfl; simp at hlt)
      have hca := hat k hlt
      have hxb := xor_byte (addB ns (bs.take k)) bs[k]
      have h4 := fourSteps_any (addB ns (bs.take k) ^^^ byt bs[k]) w ht
      have h8 := fourSteps_any (stpn 4 (addB ns (bs.take k) ^^^ byt bs[k])) w ht
      rw [← stpn_add] at h8
      have ht8 : Hid (addB ns (bs.take (k + 1)) = stpn (4 + 4) (addB ns (bs.take k) ^^^ byt bs[k])) := addB_take _ _ _ hlt
      have Hlt : Hid (k < bs.length) := hlt
      clear hx hat
      generalize bs[k] = c at hca hxb h4 h8 ht8
      generalize addB ns (bs.take k) = X at hxb h4 h8 ht8
      generalize stpn (4 + 4) (X ^^^ byt c) = Z at h8 ht8
      generalize stpn 4 (X ^^^ byt c) = Y at h8 h4
      generalize X ^^^ byt c = V at h4 hxb
      go_wp2_with fail
      refine h4.mono ?_
      rintro e w1 ⟨rfl, rfl⟩
      go_wp2_with fail
      refine h8.mono ?_
      rintro e w1 ⟨rfl, rfl⟩
      clear h4 h8
      go_wp2
      go_roundg (bs.length - (k + 1))
      case measure => have := Hlt.out; omega
      case rel => exact ⟨rfl, k + 1, Hlt.out, rfl, by go_num, by rw [ht8.out]⟩
    · obtain rfl : k = bs.length := by omega
      have hnn := not_u (addB ns bs)
      rw [HR'.out] at hnn
      rw [List.take_length]
      clear hlt hx
      go_wp2
      go_ret
      exact ⟨rfl, rfl⟩


theorem and_i1 (L : Nat) (hL : L < 9223372036854775808) : bits .and .i64 (L : Int) 1 = ((L % 2 : Nat) : Int) := by
  have h : L &&& 1 = L % 2 := Nat.and_one_is_mod L
  have hm : (BitVec.ofInt 64 (L : Int) &&& BitVec.ofInt 64 (1 : Int)).toNat = L % 2 := by
    rw [show (1 : Int) = ((1 : Nat) : Int) from rfl, BitVec.toNat_and, BitVec.ofInt_natCast, BitVec.ofInt_natCast, BitVec.toNat_ofNat, BitVec.toNat_ofNat, Nat.mod_eq_of_lt (by omega), Nat.mod_eq_of_lt (a := 1) (by omega), h]
  show IntKind.i64.wrap ((BitVec.ofInt 64 (L : Int) &&& BitVec.ofInt 64 (1 : Int)).toNat : Int) = _
  rw [hm]
  rcases Nat.mod_two_eq_zero_or_one L with e | e <;> rw [e] <;> rfl

end Go.Proofs.YtkfjkfpodkbkaaaGreatDoor

set_option linter.unusedVariables false
namespace Go.Proofs.YtkfjkfpodkbkaaaGreatDoor
open Go Go.RowKit

/-- The slice v reads as a row of slices of bytes. -/
def Rw (w : World) (v : Value) (L : List (List UInt8)) : Prop :=
  ∃ ao cap, v = .slice ao L.length cap ∧ L.length ≤ cap ∧ (L ≠ [] → ∃ b o, ao = some ⟨b, o, none⟩ ∧ ∀ i (h : i < L.length), ∃ vi, w.cell? ⟨b, o + i, none⟩ = some vi ∧ Sl 0 w vi L[i])
theorem Rw.up {w w' : World} {v : Value} {L : List (List UInt8)} (h : Rw w v L) (hu : Up w w') : Rw w' v L := by
  obtain ⟨ao, cap, rfl, hc, hx⟩ := h
  refine ⟨ao, cap, rfl, hc, fun hn => ?_⟩
  obtain ⟨b, o, rfl, hl⟩ := hx hn
  refine ⟨b, o, rfl, fun i hi => ?_⟩
  obtain ⟨vi, hv, hs⟩ := hl i hi
  exact ⟨vi, by rw [hu.cell (World.block_lt_of_cell? w _ hv)]; exact hv, hs.up hu⟩

theorem sumC_take (L : List (List UInt8)) (k : Nat) (h : k < L.length) : sumC (L.take (k + 1)).flatten = addC (sumC (L.take k).flatten) L[k] := by
  rw [List.take_succ_eq_append_getElem h, List.flatten_append, sumC_append]
  simp

set_option maxHeartbeats 400000 in
theorem SumOf_any (v : Value) (L : List (List UInt8)) (w : World) (ht : Tb w) (hv : Rw w v L) (hn : L.length ≤ 140737488355328) (hl : ∀ l ∈ L, l.length ≤ 140737488355328) :
    Calls Tryz.prog 147 #[v] w fun e w' => e = .returned (U (sumC L.flatten)) ∧ w' = w := by
  generalize hR : sumC L.flatten = R
  have HR : Hid (sumC L.flatten = R) := hR
  clear hR
  obtain ⟨ao, cap, rfl, hc, hx⟩ := hv
  go_enter Tryz.func147, Tryz.ntmps147
  go_wp2
  go_loopg [3, 8] L.length (fun g x i wr => w = wr ∧ ∃ k : Nat, k ≤ L.length ∧ g = L.length - k ∧ i = .int .i64 k ∧ x = U (sumC (L.take k).flatten))
  case atStart => exact ⟨rfl, 0, by omega, rfl, rfl, (congrArg U sumC_nil).symm⟩
  case round =>
    obtain ⟨rfl, k, hk, rfl, rfl, rfl⟩ := hrel
    by_cases hlt : k < L.length
    · obtain ⟨b, o, rfl, hat⟩ := hx (by rintro rfl; simp at hlt)
      obtain ⟨vi, hca, hsl⟩ := hat k hlt
      have ha := Add_any 0 (sumC (L.take k).flatten) vi L[k] w ht hsl (hl _ (List.getElem_mem hlt))
      rw [← sumC_take L k hlt] at ha
      have Hlt : Hid (k < L.length) := hlt
      obtain ⟨ai, ci, rfl, _⟩ := hsl
      clear hx hat
      have HZ : Hid (∃ Z, sumC (L.take (k + 1)).flatten = Z) := ⟨_, rfl⟩
      obtain ⟨Z, hZ⟩ := HZ
      have HZ : Hid (sumC (L.take (k + 1)).flatten = Z) := hZ
      rw [hZ] at ha
      clear hZ
      go_wp2_with fail
      refine ha.mono ?_
      rintro e w1 ⟨rfl, rfl⟩
      clear ha
      go_wp2
      go_roundg (L.length - (k + 1))
      case measure => have := Hlt.out; omega
      case rel => exact ⟨rfl, k + 1, Hlt.out, rfl, by go_num, by rw [HZ.out]⟩
    · obtain rfl : k = L.length := by omega
      rw [List.take_length, HR.out]
      clear hlt hx
      go_wp2
      go_ret
      exact ⟨rfl, rfl⟩

/-- A slice of bytes that was just built. -/
theorem sl_built (w : World) (cs : List UInt8) (t : TypeId) (fz : Nat × Nat) : Sl w.heap.size (w.alloc (.cells (Bv cs).toArray t fz)) (.slice (some ⟨w.heap.size, 0, none⟩) cs.length cs.length) cs := by
  refine ⟨_, _, rfl, Nat.le_refl _, (by intro h; cases h), fun _ => ⟨_, _, rfl, Nat.le_refl _, fun i hi => ?_⟩⟩
  rw [cell_of_row _ _ _ _ _ _ (heap_alloc_new _ _)]
  simp [hi]

theorem sum_nine : sumC [49, 50, 51, 52, 53, 54, 55, 56, 57] = 3808858755#32 := by decide +kernel
theorem join_abc : joinC 910901175#32 1799402614#32 2 = 3293632151#32 := by decide +kernel
theorem add_de : addC 910901175#32 [100, 101] = 3293632151#32 := by decide +kernel
theorem sum_abc : sumC ([[97, 98], [], [99]] : List (List UInt8)).flatten = 910901175#32 := by decide +kernel

end Go.Proofs.YtkfjkfpodkbkaaaGreatDoor
