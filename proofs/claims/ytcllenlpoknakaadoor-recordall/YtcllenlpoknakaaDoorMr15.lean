/- Merged: Reader. -/
import Derived.Test.YtcllenlpoknakaaDoorMr13
set_option linter.unusedVariables false
namespace Go.Proofs.YtcllenlpoknakaaDoor
open Go Go.RowKit

/-- What a reader's take leaves: whether it has taken, what is left, the fault. -/
theorem rdr_cells {base : Nat} {w : World} {r : Nat} {bs : List UInt8} {fv : Value} (h : Rdr base w r bs fv) :
    ∃ v, Sl base w v bs ∧ w.heap[r]? = some (.cells #[v, fv] 91 (0, 0)) ∧ w.cell? ⟨r, 0, none⟩ = some v ∧ w.cell? ⟨r, 1, none⟩ = some fv ∧ w.frozen? ⟨r, 0, none⟩ = false ∧ w.frozen? ⟨r, 1, none⟩ = false := by
  obtain ⟨v, h, hs⟩ := h
  refine ⟨v, hs, h, ?_, ?_, ?_, ?_⟩
  · rw [cell_of_row w r 0 _ _ _ h]; rfl
  · rw [cell_of_row w r 1 _ _ _ h]; rfl
  · simp [World.frozen?, h]
  · simp [World.frozen?, h]

theorem rdr_set_fault {base : Nat} {w : World} {r : Nat} {bs : List UInt8} {fv : Value} (h : Rdr base w r bs fv) (hf : ∀ k n, fv ≠ .int k n) (u : Value) : Rdr base (w.setCell ⟨r, 1, none⟩ u) r bs u := by
  obtain ⟨v, h, hs⟩ := h
  refine ⟨v, ?_, sl_but h hs.ne_int hf hs (But.setCell w r 1 u)⟩
  rw [heap_setCell2 w r _ 1 _ u h]; rfl

theorem rdr_set_left {base : Nat} {w : World} {r : Nat} {bs cs : List UInt8} {fv v' : Value} (h : Rdr base w r bs fv) (hf : ∀ k n, fv ≠ .int k n) (hs' : Sl base w v' cs) : Rdr base (w.setCell ⟨r, 0, none⟩ v') r cs fv := by
  obtain ⟨v, h, hs⟩ := h
  refine ⟨v', ?_, sl_but h hs.ne_int hf hs' (But.setCell w r 0 v')⟩
  rw [heap_setCell2 w r _ 0 _ v' h]; rfl

/-- (*cursor).take behind a fault. -/
theorem take_fault (base : Nat) (r : Nat) (bs : List UInt8) (t : TypeId) (x : Value) (n : Nat) (w : World) (h : Rdr base w r bs (.iface t x)) :
    Calls Tryd.prog 53 #[.pointer (some ⟨r, 0, none⟩), .int .i64 n] w fun e w' => e = .returned (.slice none 0 0) ∧ w' = w := by
  obtain ⟨v, hs, hh, h0, h1, f0, f1⟩ := rdr_cells h
  clear h
  go_enter Tryd.func53, Tryd.ntmps53
  go_wp2
  go_ret
  exact ⟨rfl, rfl⟩

/-- (*cursor).take where too little is left. -/
theorem take_short (base : Nat) (r : Nat) (bs : List UInt8) (n : Nat) (a : Addr) (w : World) (h : Rdr base w r bs .nilIface) (hg : Gl w 1 a) (hn : bs.length < n) :
    Calls Tryd.prog 53 #[.pointer (some ⟨r, 0, none⟩), .int .i64 n] w fun e w' => e = .returned (.slice none 0 0) ∧ Rdr base w' r bs (E a) ∧ But r w w' := by
  obtain ⟨v, hs, hh, h0, h1, f0, f1⟩ := rdr_cells h
  have hr := rdr_set_fault h (by intro k n e; cases e) (E a)
  obtain ⟨ao, cap, rfl, _⟩ := hs
  have hc := hg.cell
  clear h
  go_enter Tryd.func53, Tryd.ntmps53
  go_wp2
  go_ret
  exact ⟨rfl, hr, But.setCell _ _ _ _⟩

/-- (*cursor).take. -/
theorem take_ok (base : Nat) (r : Nat) (bs : List UInt8) (n : Nat) (w : World) (h : Rdr base w r bs .nilIface) (hn : n ≤ bs.length) :
    Calls Tryd.prog 53 #[.pointer (some ⟨r, 0, none⟩), .int .i64 n] w fun e w' => ∃ v, e = .returned v ∧ Sl base w' v (bs.take n) ∧ Rdr base w' r (bs.drop n) .nilIface ∧ But r w w' := by
  obtain ⟨v, hs, hh, h0, h1, f0, f1⟩ := rdr_cells h
  obtain ⟨v1, hs1, _, hh1, _⟩ := sl_cut hs 0 n (by omega) hn
  have hcut1 := hh1 rfl
  obtain ⟨v2, hs2, _, _, hh2⟩ := sl_cut hs n bs.length hn (by omega)
  have hcut2 := hh2 rfl
  clear hh1 hh2
  have hr := rdr_set_left h (by intro k n e; cases e) hs2
  rw [List.take_of_length_le (by simp)] at hr
  have hs3 := sl_but hh hs.ne_int (by intro k n e; cases e) hs1 (But.setCell w r 0 v2)
  simp only [List.drop_zero, Nat.sub_zero] at hs3
  have hx2 := hs2.ne_int
  obtain ⟨ao2, cap2, rfl, _⟩ := hs2
  rw [show ((bs.drop n).take (bs.length - n)).length = bs.length - n by simp] at hcut2 hs3 hr
  obtain ⟨ao, cap, rfl, _⟩ := hs
  clear h
  go_enter Tryd.func53, Tryd.ntmps53
  go_wp2
  go_ret
  exact ⟨_, rfl, hs3, hr, But.setCell _ _ _ _⟩

/-- The number of a row of bytes, the lowest first. -/
def unle : List UInt8 → Nat
  | [] => 0
  | c :: r => c.toNat + 256 * unle r

theorem unle_lt (bs : List UInt8) : unle bs < 256 ^ bs.length := by
  induction bs with
  | nil => simp [unle]
  | cons c r ih =>
    have := c.toNat_lt
    simp only [unle, List.length_cons, Nat.pow_succ]
    omega

theorem unle_snoc (bs : List UInt8) (c : UInt8) : unle (bs ++ [c]) = unle bs + 256 ^ bs.length * c.toNat := by
  induction bs with
  | nil => simp [unle]
  | cons d r ih => simp only [List.cons_append, unle, ih, List.length_cons, Nat.pow_succ]; rw [Nat.mul_add, Nat.add_assoc, Nat.mul_comm (256 ^ r.length) 256, Nat.mul_assoc]

/-- A group of bits laid above those that are there. -/
theorem or_place (x c s : Nat) (hx : x < 2 ^ s) (hc : 2 ^ s * c < 18446744073709551616) (hx2 : x < 18446744073709551616) :
    bits .or .u64 (x : Int) (IntKind.u64.wrap (IntKind.u64.wrap (c : Int) * 2 ^ s)) = ((x + 2 ^ s * c : Nat) : Int) := by
  have h1 : (1 : Nat) ≤ 2 ^ s := Nat.one_le_two_pow
  have hc2 : c < 18446744073709551616 := Nat.lt_of_le_of_lt (Nat.le_mul_of_pos_left c h1) hc
  have e1 : IntKind.u64.wrap (c : Int) = (c : Int) := by rw [IntKind.wrap_u64]; omega
  have e2 : (c : Int) * 2 ^ s = ((2 ^ s * c : Nat) : Int) := by push_cast; rw [Int.mul_comm]
  have e3 : IntKind.u64.wrap ((2 ^ s * c : Nat) : Int) = ((2 ^ s * c : Nat) : Int) := by rw [IntKind.wrap_u64]; omega
  rw [e1, e2, e3, u64_or_nat x (2 ^ s * c) hx2 hc, Nat.or_comm, ← Nat.two_pow_add_eq_or_of_lt hx, Nat.add_comm]

set_option maxHeartbeats 400000 in
/-- (*cursor).whole behind a fault. -/
theorem whole_fault (base : Nat) (r : Nat) (bs : List UInt8) (t : TypeId) (x : Value) (n : Nat) (w : World) (h : Rdr base w r bs (.iface t x)) :
    Calls Tryd.prog 49 #[.pointer (some ⟨r, 0, none⟩), .int .i64 n] w fun e w' => e = .returned (.int .u64 0) ∧ w' = w := by
  go_enter Tryd.func49, Tryd.ntmps49
  go_wp2_with fail
  refine (take_fault base r bs t x n _ h).mono ?_
  rintro e w1 ⟨rfl, rfl⟩
  go_wp2_with fail
  refine wp_loop_rounds 1 ?_
  rw [rounds_succ]
  go_wp2
  go_ret
  exact ⟨rfl, rfl⟩

set_option maxHeartbeats 400000 in
theorem whole_short (base : Nat) (r : Nat) (bs : List UInt8) (n : Nat) (a : Addr) (w : World) (h : Rdr base w r bs .nilIface) (hg : Gl w 1 a) (hn : bs.length < n) :
    Calls Tryd.prog 49 #[.pointer (some ⟨r, 0, none⟩), .int .i64 n] w fun e w' => e = .returned (.int .u64 0) ∧ Rdr base w' r bs (E a) ∧ But r w w' := by
  go_enter Tryd.func49, Tryd.ntmps49
  go_wp2_with fail
  refine (take_short base r bs n a _ h hg hn).mono ?_
  rintro e w1 ⟨rfl, h1, h2⟩
  go_wp2_with fail
  refine wp_loop_rounds 1 ?_
  rw [rounds_succ]
  go_wp2
  go_ret
  exact ⟨rfl, h1, h2⟩

set_option maxHeartbeats 400000 in
theorem whole_ok (base : Nat) (r : Nat) (bs : List UInt8) (n : Nat) (w : World) (h : Rdr base w r bs .nilIface) (hn : n ≤ bs.length) (h8 : n ≤ 8) :
    Calls Tryd.prog 49 #[.pointer (some ⟨r, 0, none⟩), .int .i64 n] w fun e w' => e = .returned (.int .u64 (unle (bs.take n))) ∧ Rdr base w' r (bs.drop n) .nilIface ∧ But r w w' := by
  go_enter Tryd.func49, Tryd.ntmps49
  go_wp2_with fail
  refine (take_ok base r bs n _ h hn).mono ?_
  rintro e w1 ⟨v1, rfl, hs, h1, h2⟩
  obtain ⟨ao, cap, rfl, _, _, hx⟩ := hs
  have hlen : (bs.take n).length = n := by simp; omega
  rw [hlen]
  go_wp2_with fail
  go_loop [5, 12] (fun x i => ∃ k : Nat, k ≤ n ∧ i = .int .i64 k ∧ x = .int .u64 (unle ((bs.take n).take k))) (fun _ i => n - (intOf i).toNat)
  case atStart => exact ⟨0, Nat.zero_le _, rfl, by simp [unle]⟩
  case round =>
    obtain ⟨k, hk, rfl, rfl⟩ := hrel
    by_cases hlt : k < n
    · obtain ⟨b, o, rfl, _, ha⟩ := hx (by intro e; rw [e] at hlen; simp at hlen; omega)
      have hc := ha k (by omega)
      have hst : Hid (((unle ((bs.take n).take (k + 1)) : Nat) : Int) = bits .or .u64 (unle ((bs.take n).take k)) (IntKind.u64.wrap (IntKind.u64.wrap ((bs[k]'(by omega)).toNat : Int) * 2 ^ (8 * k)))) := by
        have hl := unle_lt ((bs.take n).take k)
        have hkl : ((bs.take n).take k).length = k := by simp; omega
        rw [hkl] at hl
        have h256 : (256 : Nat) ^ k = 2 ^ (8 * k) := by rw [Nat.pow_mul]
        have hb := (bs[k]'(by omega)).toNat_lt
        have hpow : (2 : Nat) ^ (8 * k) ≤ 2 ^ 56 := Nat.pow_le_pow_right (by omega) (by omega)
        have hmul : 2 ^ (8 * k) * (bs[k]'(by omega)).toNat ≤ 2 ^ 56 * 255 := Nat.mul_le_mul hpow (by omega)
        rw [or_place _ _ _ (by rw [← h256]; exact hl) (by omega) (by omega)]
        have e : (bs.take n).take (k + 1) = (bs.take n).take k ++ [bs[k]'(by omega)] := by
          rw [List.take_succ_eq_append_getElem (by omega)]; simp
        rw [e, unle_snoc, hkl, h256]
        rfl
      go_wp2
      go_round
      case rel => exact ⟨k + 1, by omega, by go_num, by rw [hst.out]⟩
      case measure => simp [intOf]; omega
    · obtain rfl : k = n := by omega
      have hfin : Hid (unle ((bs.take k).take k) = unle (bs.take k)) := by rw [List.take_of_length_le (by omega)]; rfl
      go_wp2
      go_ret
      exact ⟨congrArg (fun q : Nat => Ending.returned (.int .u64 (q : Int))) hfin.out, h1, h2⟩

/-! The reader as a machine over lists: what a call answers and leaves. aS: the address of ErrShort. -/
def wholeA (n : Nat) (bs : List UInt8) : Value → Nat
  | .nilIface => if n ≤ bs.length then unle (bs.take n) else 0
  | _ => 0
def wholeL (n : Nat) (bs : List UInt8) : Value → List UInt8
  | .nilIface => if n ≤ bs.length then bs.drop n else bs
  | _ => bs
def wholeF (aS : Addr) (n : Nat) (bs : List UInt8) : Value → Value
  | .nilIface => if n ≤ bs.length then .nilIface else E aS
  | v => v

/-- A fault: none, or some error. -/
def isF (v : Value) : Prop := v = .nilIface ∨ ∃ a, v = E a

theorem whole_any (base : Nat) (r : Nat) (bs : List UInt8) (fv : Value) (n : Nat) (a : Addr) (w : World) (h : Rdr base w r bs fv) (hf : isF fv) (hg : Gl w 1 a) (h8 : n ≤ 8) :
    Calls Tryd.prog 49 #[.pointer (some ⟨r, 0, none⟩), .int .i64 n] w fun e w' => e = .returned (.int .u64 (wholeA n bs fv)) ∧ Rdr base w' r (wholeL n bs fv) (wholeF a n bs fv) ∧ But r w w' := by
  rcases hf with rfl | ⟨x, rfl⟩
  · by_cases hn : n ≤ bs.length
    · simp only [wholeA, wholeL, wholeF, if_pos hn]
      exact whole_ok base r bs n w h hn h8
    · simp only [wholeA, wholeL, wholeF, if_neg hn]
      exact whole_short base r bs n a w h hg (by omega)
  · refine (whole_fault base r bs _ _ n w h).mono ?_
    rintro e w' ⟨rfl, rfl⟩
    exact ⟨rfl, h, But.refl _ _⟩

theorem wholeA_lt (n : Nat) (bs : List UInt8) (fv : Value) : wholeA n bs fv < 256 ^ n := by
  have h1 : 0 < 256 ^ n := Nat.pow_pos (by omega)
  unfold wholeA
  split
  · split
    · have := unle_lt (bs.take n)
      rwa [show (bs.take n).length = n by simp; omega] at this
    · exact h1
  · exact h1

theorem wholeF_is (a : Addr) (n : Nat) (bs : List UInt8) {fv : Value} (hf : isF fv) : isF (wholeF a n bs fv) := by
  rcases hf with rfl | ⟨x, rfl⟩
  · simp only [wholeF]; split
    · exact .inl rfl
    · exact .inr ⟨a, rfl⟩
  · exact .inr ⟨x, rfl⟩

theorem U64_any (base : Nat) (r : Nat) (bs : List UInt8) (fv : Value) (a : Addr) (w : World) (h : Rdr base w r bs fv) (hf : isF fv) (hg : Gl w 1 a) :
    Calls Tryd.prog 31 #[.pointer (some ⟨r, 0, none⟩)] w fun e w' => e = .returned (.int .u64 (wholeA 8 bs fv)) ∧ Rdr base w' r (wholeL 8 bs fv) (wholeF a 8 bs fv) ∧ But r w w' := by
  go_enter Tryd.func31, Tryd.ntmps31
  go_wp2_with fail
  refine (whole_any base r bs fv 8 a _ h hf hg (by omega)).mono ?_
  rintro e w1 ⟨rfl, h1, h2⟩
  go_wp2
  go_ret
  exact ⟨rfl, h1, h2⟩



theorem U8_any (base : Nat) (r : Nat) (bs : List UInt8) (fv : Value) (a : Addr) (w : World) (h : Rdr base w r bs fv) (hf : isF fv) (hg : Gl w 1 a) :
    Calls Tryd.prog 28 #[.pointer (some ⟨r, 0, none⟩)] w fun e w' => e = .returned (.int .u8 (wholeA 1 bs fv)) ∧ Rdr base w' r (wholeL 1 bs fv) (wholeF a 1 bs fv) ∧ But r w w' := by
  have hlt := wholeA_lt 1 bs fv
  go_enter Tryd.func28, Tryd.ntmps28
  go_wp2_with fail
  refine (whole_any base r bs fv 1 a _ h hf hg (by omega)).mono ?_
  rintro e w1 ⟨rfl, h1, h2⟩
  go_wp2
  go_ret
  exact ⟨rfl, h1, h2⟩
end Go.Proofs.YtcllenlpoknakaaDoor
