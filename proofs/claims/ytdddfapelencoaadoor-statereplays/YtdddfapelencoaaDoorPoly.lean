/- crc, without the program: one step of a 32-bit number, many steps, sums of single bits, products; all by linearity. Imports nothing of the program. -/
namespace Go.Proofs.YtdddfapelencoaaDoor

abbrev W32 := BitVec 32
def poly : W32 := 0x82f63b78#32
/-- One step. -/
def stp (x : W32) : W32 := (x >>> 1) ^^^ (if x.getLsbD 0 then poly else 0#32)
/-- n steps. -/
def stpn : Nat → W32 → W32
  | 0, x => x
  | n + 1, x => stpn n (stp x)

/-- A map that takes sums place by place to sums. -/
def Lin (f : W32 → W32) : Prop := ∀ x y, f (x ^^^ y) = f x ^^^ f y

theorem xor4 (a b c d : W32) : (a ^^^ b) ^^^ (c ^^^ d) = (a ^^^ c) ^^^ (b ^^^ d) := by
  rw [BitVec.xor_assoc, BitVec.xor_assoc, ← BitVec.xor_assoc b c d, BitVec.xor_comm b c, BitVec.xor_assoc c b d]

theorem Lin.zero {f : W32 → W32} (h : Lin f) : f 0#32 = 0#32 := by
  have := h 0#32 0#32
  simpa using this

theorem stp_lin : Lin stp := by
  intro x y
  unfold stp
  rw [xor4]
  congr 1
  · ext i; simp
  · rw [BitVec.getLsbD_xor]
    cases x.getLsbD 0 <;> cases y.getLsbD 0 <;> simp

theorem stpn_lin (n : Nat) : Lin (stpn n) := by
  induction n with
  | zero => intro x y; rfl
  | succ n ih => intro x y; show stpn n (stp (x ^^^ y)) = _; rw [stp_lin, ih]; rfl
theorem stpn_xor (n : Nat) (x y : W32) : stpn n (x ^^^ y) = stpn n x ^^^ stpn n y := stpn_lin n x y
theorem stpn_zero (n : Nat) : stpn n 0#32 = 0#32 := (stpn_lin n).zero
theorem stpn_add (m n : Nat) (x : W32) : stpn (m + n) x = stpn m (stpn n x) := by
  induction n generalizing x with
  | zero => rfl
  | succ n ih => exact ih (stp x)
theorem stpn_comm (m n : Nat) (x : W32) : stpn m (stpn n x) = stpn n (stpn m x) := by
  rw [← stpn_add, ← stpn_add, Nat.add_comm]
theorem stp_stpn (n : Nat) (x : W32) : stp (stpn n x) = stpn (n + 1) x := by
  rw [Nat.add_comm, stpn_add]; rfl

/-! Sums of some. -/
def xs : Nat → (Nat → W32) → W32
  | 0, _ => 0#32
  | n + 1, g => xs n g ^^^ g n
theorem xs_congr (n : Nat) (g h : Nat → W32) (e : ∀ i, i < n → g i = h i) : xs n g = xs n h := by
  induction n with
  | zero => rfl
  | succ n ih => simp only [xs]; rw [ih (fun i hi => e i (by omega)), e n (by omega)]
theorem xs_lin {f : W32 → W32} (hf : Lin f) (n : Nat) (g : Nat → W32) : f (xs n g) = xs n (fun i => f (g i)) := by
  induction n with
  | zero => exact hf.zero
  | succ n ih => simp only [xs]; rw [hf, ih]
theorem xs_xor (n : Nat) (g h : Nat → W32) : xs n (fun i => g i ^^^ h i) = xs n g ^^^ xs n h := by
  induction n with
  | zero => simp [xs]
  | succ n ih => simp only [xs]; rw [ih, xor4]
theorem xs_tail (k n : Nat) (g : Nat → W32) (hkn : k ≤ n) (e : ∀ i, k ≤ i → i < n → g i = 0#32) : xs n g = xs k g := by
  induction n with
  | zero =>
    obtain rfl : k = 0 := by omega
    rfl
  | succ n ih =>
    by_cases h : k = n + 1
    · subst h; rfl
    · simp only [xs]
      rw [ih (by omega) (fun i h1 h2 => e i h1 (by omega)), e n (by omega) (by omega), BitVec.xor_zero]

/-- The single bit i. -/
def one (i : Nat) : W32 := 1#32 <<< i
theorem one_bit (i j : Nat) : (one i).getLsbD j = (decide (j < 32) && decide (i = j)) := by
  unfold one
  rw [BitVec.getLsbD_shiftLeft]
  by_cases h : j < 32 <;> by_cases h2 : i = j <;> simp [h, h2] <;> omega
theorem xs_bits (x : W32) (n : Nat) (j : Nat) : (xs n (fun i => if x.getLsbD i then one i else 0#32)).getLsbD j = (decide (j < n) && decide (j < 32) && x.getLsbD j) := by
  induction n with
  | zero => simp [xs]
  | succ n ih =>
    simp only [xs, BitVec.getLsbD_xor, ih]
    by_cases h : n = j
    · subst h
      cases hx : x.getLsbD n <;> simp [one_bit]
    · by_cases h2 : j < n
      · have : j < n + 1 := by omega
        cases hx : x.getLsbD n <;> simp [one_bit, h, h2, this]
      · have : ¬ j < n + 1 := by omega
        cases hx : x.getLsbD n <;> simp [one_bit, h, h2, this]
theorem bits_xs (x : W32) : xs 32 (fun i => if x.getLsbD i then one i else 0#32) = x := by
  apply BitVec.eq_of_getLsbD_eq
  intro i hi
  rw [xs_bits]; simp [hi]

/-- A linear map by its bits. -/
theorem Lin.bits {f : W32 → W32} (hf : Lin f) (x : W32) : f x = xs 32 (fun i => if x.getLsbD i then f (one i) else 0#32) := by
  have h := congrArg f (bits_xs x)
  rw [xs_lin hf] at h
  rw [← h]
  apply xs_congr
  intro i _
  show f (if x.getLsbD i then one i else 0#32) = _
  split
  · rfl
  · exact hf.zero
theorem lin_ext {f g : W32 → W32} (hf : Lin f) (hg : Lin g) (h : ∀ i : Fin 32, f (one i.val) = g (one i.val)) (x : W32) : f x = g x := by
  rw [hf.bits, hg.bits]
  apply xs_congr
  intro i hi
  rw [h ⟨i, hi⟩]

/-! Products. -/
def top : W32 := 0x80000000#32
/-- a times b: the highest bit of a stands for b itself, the next for a step of b, and so on. -/
def mul (a b : W32) : W32 := xs 32 (fun i => if a.getLsbD (31 - i) then stpn i b else 0#32)
theorem mul_steps (a b : W32) (n : Nat) : mul a (stpn n b) = stpn n (mul a b) := by
  unfold mul
  rw [xs_lin (stpn_lin n)]
  apply xs_congr
  intro i _
  show _ = stpn n (if a.getLsbD (31 - i) then stpn i b else 0#32)
  split
  · rw [stpn_comm]
  · exact (stpn_zero n).symm
theorem mul_lin (b : W32) : Lin (fun a => mul a b) := by
  intro x y
  show mul (x ^^^ y) b = mul x b ^^^ mul y b
  unfold mul
  rw [← xs_xor]
  apply xs_congr
  intro i _
  rw [BitVec.getLsbD_xor]
  cases x.getLsbD (31 - i) <;> cases y.getLsbD (31 - i) <;> simp
theorem mul_top (a : W32) : mul a top = a :=
  lin_ext (f := fun a => mul a top) (g := fun a => a) (mul_lin top) (fun _ _ => rfl) (by decide +kernel) a
theorem mul_power (a : W32) (n : Nat) : mul a (stpn n top) = stpn n a := by rw [mul_steps, mul_top]

/-- What multiply's loop has in the product behind k rounds. -/
def mulK (a b : W32) (k : Nat) : W32 := xs k (fun i => if a.getLsbD (31 - i) then stpn i b else 0#32)
theorem mulK_succ (a b : W32) (k : Nat) : mulK a b (k + 1) = mulK a b k ^^^ (if a.getLsbD (31 - k) then stpn k b else 0#32) := rfl
theorem shl_top (a : W32) (k : Nat) (hk : k < 32) : (a <<< k).getLsbD 31 = a.getLsbD (31 - k) := by
  rw [BitVec.getLsbD_shiftLeft]
  have : ¬ (31 < k) := by omega
  simp [this]
theorem mulK_done (a b : W32) (k : Nat) (hk : k ≤ 32) (h : a <<< k = 0#32) : mulK a b k = mul a b := by
  unfold mulK mul
  refine (xs_tail k 32 _ hk fun i h1 h2 => ?_).symm
  have := congrArg (fun x => x.getLsbD (31 - i + k)) h
  simp only [BitVec.getLsbD_shiftLeft] at this
  have e1 : 31 - i + k < 32 := by omega
  have e2 : ¬ (31 - i + k < k) := by omega
  have e3 : 31 - i + k - k = 31 - i := by omega
  simp only [e1, e2, e3] at this
  simp at this
  simp [this]

/-! The table of half bytes. -/
def halfT : List Nat := [0x00000000, 0x105ec76f, 0x20bd8ede, 0x30e349b1, 0x417b1dbc, 0x5125dad3, 0x61c69362, 0x7198540d, 0x82f63b78, 0x92a8fc17, 0xa24bb5a6, 0xb21572c9, 0xc38d26c4, 0xd3d3e1ab, 0xe330a81a, 0xf36e6f75]
def halfV (i : Nat) : W32 := BitVec.ofNat 32 (halfT.getD i 0)
def four (x : W32) : W32 := (x >>> 4) ^^^ halfV (x.toNat % 16)
theorem half_xor : ∀ a b : Fin 16, halfV ((a.val ^^^ b.val) % 16) = halfV a.val ^^^ halfV b.val := by decide +kernel
theorem four_lin : Lin four := by
  intro x y
  unfold four
  rw [xor4]
  congr 1
  · ext i; simp
  · have h := half_xor ⟨x.toNat % 16, by omega⟩ ⟨y.toNat % 16, by omega⟩
    simp only at h
    rw [← h]
    congr 1
    rw [BitVec.toNat_xor, show (16 : Nat) = 2 ^ 4 from rfl, Nat.xor_mod_two_pow, Nat.xor_mod_two_pow]
    simp
theorem four_eq (x : W32) : four x = stpn 4 x := lin_ext four_lin (stpn_lin 4) (by decide +kernel) x

/-! No two numbers step to one. -/
theorem stp_ker (x : W32) (h : stp x = 0#32) : x = 0#32 := by
  have ht := congrArg (fun z => z.getLsbD 31) h
  have hb : x.getLsbD 0 = false := by
    unfold stp at ht
    cases e : x.getLsbD 0 with
    | false => rfl
    | true => simp [e, poly] at ht
  unfold stp at h
  rw [hb] at h
  simp at h
  apply BitVec.eq_of_getLsbD_eq
  intro i hi
  cases i with
  | zero => simpa using hb
  | succ j =>
    have := congrArg (fun z => z.getLsbD j) h
    simp at this
    simpa [Nat.add_comm] using this
theorem stpn_ker (n : Nat) : ∀ x : W32, stpn n x = 0#32 → x = 0#32 := by
  induction n with
  | zero => intro x h; exact h
  | succ n ih => intro x h; exact stp_ker x (ih _ h)
theorem xor_eq_zero (x y : W32) (h : x ^^^ y = 0#32) : x = y := by
  have := congrArg (fun z => z ^^^ y) h
  simpa [BitVec.xor_assoc] using this
theorem stpn_inj (n : Nat) (x y : W32) (h : stpn n x = stpn n y) : x = y := by
  apply xor_eq_zero
  apply stpn_ker n
  rw [stpn_xor, h]; simp

/-! Bytes. -/
def byt (c : UInt8) : W32 := c.toBitVec.setWidth 32
/-- What the bytes make of x. -/
def addB (x : W32) (bs : List UInt8) : W32 := bs.foldl (fun x c => stpn 8 (x ^^^ byt c)) x
theorem addB_cons (x : W32) (c : UInt8) (bs : List UInt8) : addB x (c :: bs) = addB (stpn 8 (x ^^^ byt c)) bs := rfl
theorem addB_append (x : W32) (ys bs : List UInt8) : addB x (ys ++ bs) = addB (addB x ys) bs := by
  unfold addB; rw [List.foldl_append]
theorem addB_xor (bs : List UInt8) : ∀ x y : W32, addB (x ^^^ y) bs = addB x bs ^^^ stpn (8 * bs.length) y := by
  induction bs with
  | nil => intro x y; rfl
  | cons c r ih =>
    intro x y
    rw [addB_cons, addB_cons, BitVec.xor_assoc, BitVec.xor_comm y, ← BitVec.xor_assoc, stpn_xor, ih, ← stpn_add]
    congr 2
theorem addB_zeros (n : Nat) (x : W32) : addB x (List.replicate n 0) = stpn (8 * n) x := by
  induction n generalizing x with
  | zero => rfl
  | succ n ih =>
    rw [List.replicate_succ, addB_cons, ih, ← stpn_add]
    have : byt 0 = 0#32 := rfl
    rw [this, BitVec.xor_zero]; rfl
/-- Add: the sum s of some bytes, with bs behind them. -/
def addC (s : W32) (bs : List UInt8) : W32 := ~~~ addB (~~~ s) bs
def sumC (bs : List UInt8) : W32 := addC 0#32 bs
def ones : W32 := 0xffffffff#32
theorem not_ones (x : W32) : ~~~ x = ones ^^^ x := by
  apply BitVec.eq_of_getLsbD_eq
  intro i hi
  have : ones.getLsbD i = true := by
    show (BitVec.ofNat 32 4294967295).getLsbD i = true
    rw [show BitVec.ofNat 32 4294967295 = BitVec.allOnes 32 from rfl, BitVec.getLsbD_allOnes]; simpa using hi
  rw [BitVec.getLsbD_xor, this, BitVec.getLsbD_not]; simp [hi]
theorem addC_nil (s : W32) : addC s [] = s := by simp [addC, addB]
theorem sumC_nil : sumC [] = 0#32 := addC_nil _
theorem addC_append (s : W32) (ys bs : List UInt8) : addC s (ys ++ bs) = addC (addC s ys) bs := by
  unfold addC
  rw [addB_append, BitVec.not_not]
theorem sumC_append (ys bs : List UInt8) : sumC (ys ++ bs) = addC (sumC ys) bs := addC_append _ _ _
/-- Join: the pieces' sums, and the second one's length. -/
def joinC (s t : W32) (n : Nat) : W32 := stpn (8 * n) s ^^^ t
theorem addC_join (s : W32) (bs : List UInt8) : addC s bs = joinC s (sumC bs) bs.length := by
  unfold addC joinC sumC addC
  rw [not_ones s, addB_xor, not_ones (_ ^^^ _), not_ones (addB _ _), not_ones 0#32, BitVec.xor_zero]
  rw [← BitVec.xor_assoc, BitVec.xor_comm (stpn _ _)]

/-! Four bytes turned. -/
theorem stp_shl (y : W32) : stpn 8 (y <<< 8) = y &&& 0x00ffffff#32 :=
  lin_ext (f := fun y => stpn 8 (y <<< 8)) (g := fun y => y &&& 0x00ffffff#32)
    (by intro x y; show stpn 8 ((x ^^^ y) <<< 8) = _; rw [← stpn_xor]; congr 1; ext i; simp; cases decide (i < 8) <;> simp)
    (by intro x y; ext i; simp [Bool.and_xor_distrib_right]) (by decide +kernel) y
theorem low24 (i : Nat) : (0x00ffffff#32).getLsbD i = decide (i < 24) := by
  rw [show (0x00ffffff#32 : BitVec 32) = (BitVec.allOnes 24).setWidth 32 from by decide, BitVec.getLsbD_setWidth, BitVec.getLsbD_allOnes]
  by_cases h : i < 24
  · have : i < 32 := by omega
    simp [h, this]
  · simp [h]
theorem addB_four (x : W32) (a b c d : UInt8) : addB x [a, b, c, d] = stpn 32 (x ^^^ (byt a ^^^ ((byt b ^^^ ((byt c ^^^ (byt d <<< 8)) <<< 8)) <<< 8))) := by
  have e3 : stpn 8 (byt d <<< 8) = byt d := by
    rw [stp_shl]; apply BitVec.eq_of_getLsbD_eq; intro i hi
    have := low24 i
    rw [BitVec.getLsbD_and, this]
    by_cases h24 : i < 24
    · simp [h24]
    · have h2 : d.toBitVec.getLsbD i = false := BitVec.getLsbD_of_ge _ _ (by omega)
      simp [h24, byt, h2]
  have e2 : stpn 8 ((byt c ^^^ (byt d <<< 8)) <<< 8) = byt c ^^^ (byt d <<< 8) := by
    rw [stp_shl]; apply BitVec.eq_of_getLsbD_eq; intro i hi
    have := low24 i
    rw [BitVec.getLsbD_and, this]
    by_cases h24 : i < 24
    · simp [h24]
    · have n8 : ¬ i < 8 := by omega
      simp [h24, byt, n8]
      have h1 : c.toBitVec.getLsbD i = false := BitVec.getLsbD_of_ge _ _ (by omega)
      have h2 : d.toBitVec.getLsbD (i - 8) = false := BitVec.getLsbD_of_ge _ _ (by omega)
      simp [h1, h2]
  have e1 : stpn 8 ((byt b ^^^ ((byt c ^^^ (byt d <<< 8)) <<< 8)) <<< 8) = byt b ^^^ ((byt c ^^^ (byt d <<< 8)) <<< 8) := by
    rw [stp_shl]; apply BitVec.eq_of_getLsbD_eq; intro i hi
    have := low24 i
    rw [BitVec.getLsbD_and, this]
    by_cases h24 : i < 24
    · simp [h24]
    · have n8 : ¬ i < 8 := by omega
      have n8' : ¬ i - 8 < 8 := by omega
      simp [h24, byt, n8, n8']
      have h1 : b.toBitVec.getLsbD i = false := BitVec.getLsbD_of_ge _ _ (by omega)
      have h2 : c.toBitVec.getLsbD (i - 8) = false := BitVec.getLsbD_of_ge _ _ (by omega)
      have h3 : d.toBitVec.getLsbD (i - 8 - 8) = false := BitVec.getLsbD_of_ge _ _ (by omega)
      simp [h1, h2, h3]
  show stpn 8 (stpn 8 (stpn 8 (stpn 8 (x ^^^ byt a) ^^^ byt b) ^^^ byt c) ^^^ byt d) = _
  have e32 : ∀ z, stpn 32 z = stpn 8 (stpn 8 (stpn 8 (stpn 8 z))) := fun z => by rw [← stpn_add, ← stpn_add, ← stpn_add]
  rw [e32]
  congr 1
  rw [← BitVec.xor_assoc, stpn_xor 8 (x ^^^ byt a), e1, ← BitVec.xor_assoc, stpn_xor 8 (_ ^^^ byt b), e2, ← BitVec.xor_assoc, stpn_xor 8 (_ ^^^ byt c), e3]
theorem addB_ker4 (a b c d : UInt8) (h : addB 0#32 [a, b, c, d] = 0#32) : a = 0 ∧ b = 0 ∧ c = 0 ∧ d = 0 := by
  have key := addB_four 0#32 a b c d
  rw [BitVec.zero_xor] at key
  rw [key] at h
  have h0 := stpn_ker _ _ h
  have bit : ∀ i, (byt a ^^^ ((byt b ^^^ ((byt c ^^^ (byt d <<< 8)) <<< 8)) <<< 8)).getLsbD i = false := by intro i; rw [h0]; simp
  have Z : ∀ (x : UInt8), (∀ i, i < 8 → x.toBitVec.getLsbD i = false) → x = 0 := by
    intro x hx
    have : x.toBitVec = 0#8 := by
      apply BitVec.eq_of_getLsbD_eq
      intro i hi
      rw [hx i hi]; simp
    exact UInt8.eq_of_toBitVec_eq (by rw [this]; rfl)
  have hi8 : ∀ (x : UInt8) i, 8 ≤ i → x.toBitVec.getLsbD i = false := fun x i hi => BitVec.getLsbD_of_ge _ _ hi
  refine ⟨Z a fun i hi => ?_, Z b fun i hi => ?_, Z c fun i hi => ?_, Z d fun i hi => ?_⟩
  · have := bit i
    have e : i < 32 := by omega
    simpa [byt, hi, e] using this
  · have := bit (i + 8)
    have e : i + 8 < 32 := by omega
    have e' : i < 32 := by omega
    simpa [byt, hi, e, e', hi8 a (i + 8) (by omega)] using this
  · have := bit (i + 16)
    have e : i + 16 < 32 := by omega
    have e' : i + 8 < 32 := by omega
    have e2 : ¬ i + 16 < 8 := by omega
    have e3 : ¬ i + 8 < 8 := by omega
    have e4 : i + 16 - 8 = i + 8 := by omega
    have e5 : i + 8 - 8 = i := by omega
    have e6 : i < 32 := by omega
    simpa [byt, hi, e, e', e2, e3, e4, e5, e6, hi8 a (i + 16) (by omega), hi8 b (i + 8) (by omega)] using this
  · have := bit (i + 24)
    have e : i + 24 < 32 := by omega
    have e' : i + 16 < 32 := by omega
    have e'' : i + 8 < 32 := by omega
    have e2 : ¬ i + 24 < 8 := by omega
    have e3 : ¬ i + 16 < 8 := by omega
    have e3' : ¬ i + 8 < 8 := by omega
    have e4 : i + 24 - 8 = i + 16 := by omega
    have e5 : i + 16 - 8 = i + 8 := by omega
    have e6 : i + 8 - 8 = i := by omega
    have e7 : i < 32 := by omega
    simpa [byt, hi, e, e', e'', e2, e3, e3', e4, e5, e6, e7, hi8 a (i + 24) (by omega), hi8 b (i + 16) (by omega), hi8 c (i + 8) (by omega)] using this
end Go.Proofs.YtdddfapelencoaaDoor
