/- Merged: Take, Reader, Num. -/
import Derived.Test.YtooclofdljampaaDoorMiA
import Derived.Deep.QuietTactic
import Derived.BigQuiet
set_option linter.unusedVariables false
namespace Go.Proofs.YtooclofdljampaaDoor
open Go Go.RowKit

/-- An error of errors.New's make, at its address. -/
abbrev E (a : Addr) : Value := .iface 137 (.pointer (some a))

/-- The package variable g holds the error at a. -/
def Gl (w : World) (g : Nat) (a : Addr) : Prop := ∃ t, w.heap[g]? = some (.cells #[E a] t (0, 0))

theorem Gl.cell {w : World} {g : Nat} {a : Addr} (h : Gl w g a) : w.cell? ⟨g, 0, none⟩ = some (E a) := by
  obtain ⟨t, h⟩ := h
  rw [cell_of_row w g 0 _ t _ h]; rfl
theorem Gl.lt {w : World} {g : Nat} {a : Addr} (h : Gl w g a) : g < w.heap.size := by
  obtain ⟨t, h⟩ := h
  exact (Array.getElem?_eq_some_iff.1 h).1
theorem Gl.up {w w' : World} {g : Nat} {a : Addr} (h : Gl w g a) (hu : Up w w') : Gl w' g a := by
  have hl := h.lt
  obtain ⟨t, h⟩ := h
  exact ⟨t, by rw [hu.block g hl]; exact h⟩

/-- All blocks are as they were, but for the block r. -/
abbrev But (r : Nat) (w w' : World) : Prop := w.grownBy w' (some r)

theorem But.refl (r : Nat) (w : World) : But r w w := World.grownBy.refl w _
theorem But.of_up {w w' : World} (r : Nat) (h : Up w w') : But r w w' := ⟨h.os, h.tape, h.output, h.size, fun k hk _ => h.block k hk⟩
theorem But.trans {r : Nat} {a b c : World} (h : But r a b) (k : But r b c) : But r a c :=
  ⟨k.os.trans h.os, k.tape.trans h.tape, k.output.trans h.output, Nat.le_trans h.size k.size, fun i hi hne => (k.block i (Nat.lt_of_lt_of_le hi h.size) hne).trans (h.block i hi hne)⟩
theorem But.below {r B : Nat} {a b : World} (h : But r a b) (hr : B ≤ r) (hB : B ≤ a.heap.size) : Below B a b :=
  ⟨h.os, h.tape, h.output, h.size, fun k hk => h.block k (by omega) (by intro e; cases e; omega)⟩

theorem At.but {w w' : World} {b o r : Nat} {bs : List UInt8} (h : At w b o bs) (hu : But r w w') (hr : b ≠ r) : At w' b o bs := by
  intro i hi
  exact hu.cell (h i hi) (by simpa using hr)

/-- A reader's block: what is left, and the fault. -/
def Rdr (base : Nat) (w : World) (r : Nat) (bs : List UInt8) (fv : Value) : Prop :=
  ∃ v, w.heap[r]? = some (.cells #[v, fv] 102 (0, 0)) ∧ Sl base w v bs

theorem Rdr.lt {base : Nat} {w : World} {r : Nat} {bs : List UInt8} {fv : Value} (h : Rdr base w r bs fv) : r < w.heap.size := by
  obtain ⟨v, h, _⟩ := h
  exact (Array.getElem?_eq_some_iff.1 h).1
theorem Rdr.up {base : Nat} {w w' : World} {r : Nat} {bs : List UInt8} {fv : Value} (h : Rdr base w r bs fv) (hu : Up w w') : Rdr base w' r bs fv := by
  have hl := h.lt
  obtain ⟨v, h, hs⟩ := h
  exact ⟨v, by rw [hu.block r hl]; exact h, hs.up hu⟩

/-- The bytes of a reader lie in another block than the reader. -/
theorem sl_apart {base : Nat} {w : World} {r t : Nat} {bs : List UInt8} {v x fv : Value} (h : w.heap[r]? = some (.cells #[x, fv] t (0, 0))) (hx : ∀ k n, x ≠ .int k n) (hf : ∀ k n, fv ≠ .int k n) (hs : Sl base w v bs) :
    ∀ b o, bs ≠ [] → At w b o bs → b ≠ r := by
  rintro b o hn ha rfl
  have hl : 0 < bs.length := List.length_pos_iff.2 hn
  have := ha 0 hl
  rw [cell_of_row w b _ _ t _ h] at this
  match o, this with
  | 0, this => simp at this; exact hx _ _ this
  | 1, this => simp at this; exact hf _ _ this
  | n + 2, this => simp at this

theorem sl_but {base : Nat} {w w' : World} {r t : Nat} {bs : List UInt8} {v x fv : Value} (h : w.heap[r]? = some (.cells #[x, fv] t (0, 0))) (hx : ∀ k n, x ≠ .int k n) (hf : ∀ k n, fv ≠ .int k n) (hs : Sl base w v bs) (hu : But r w w') : Sl base w' v bs := by
  have hap := sl_apart h hx hf hs
  obtain ⟨ao, cap, rfl, hc, hn, hxx⟩ := hs
  refine ⟨ao, cap, rfl, hc, hn, fun hb => ?_⟩
  obtain ⟨b, o, rfl, hbb, ha⟩ := hxx hb
  exact ⟨b, o, rfl, hbb, ha.but hu (hap b o hb ha)⟩

theorem Sl.ne_int {base : Nat} {w : World} {v : Value} {bs : List UInt8} (h : Sl base w v bs) : ∀ k n, v ≠ .int k n := by
  obtain ⟨ao, cap, rfl, _⟩ := h
  intro k n e; cases e

theorem heap_setCell2 (w : World) (r t i : Nat) (cs : Array Value) (u : Value) (h : w.heap[r]? = some (.cells cs t (0, 0))) :
    (w.setCell ⟨r, i, none⟩ u).heap[r]? = some (.cells (cs.setIfInBounds i u) t (0, 0)) := by
  rw [setCell_eq_setRow w r i cs t (0, 0) u h]
  exact setRow_heap w r cs _ t _ h

theorem But.setCell (w : World) (r i : Nat) (u : Value) : But r w (w.setCell ⟨r, i, none⟩ u) :=
  ⟨rfl, rfl, rfl, by simp [World.setCell], fun k _ hne => Below.heap_setCell _ _ _ _ (by intro e; exact hne (by rw [e]))⟩

theorem elem_bytes : Tryd.prog.elem 30 = 5 := by kernel_rfl
theorem size_u8 (u : World) : (sizeOf 5).run Tryd.prog u = .ok 1 u := by
  obtain ⟨i0, hi, hz0, hz1, hz2⟩ := info_parts Tryd.infoU8
  simp [sizeOf, typeInfo, hi, hz1]

/-- b[l:h] of a slice of bytes. -/
theorem sl_cut {base : Nat} {w : World} {v : Value} {bs : List UInt8} (hs : Sl base w v bs) (l h : Nat) (hl : l ≤ h) (hh : h ≤ bs.length) :
    ∃ v', Sl base w v' ((bs.drop l).take (h - l)) ∧
      (∀ u, (Instr.slice 30 v (some (.int .i64 (l : Int))) (some (.int .i64 (h : Int))) none).run Tryd.prog u = .ok v' u) ∧
      (l = 0 → ∀ u, (Instr.slice 30 v none (some (.int .i64 (h : Int))) none).run Tryd.prog u = .ok v' u) ∧
      (h = bs.length → ∀ u, (Instr.slice 30 v (some (.int .i64 (l : Int))) none none).run Tryd.prog u = .ok v' u) := by
  obtain ⟨ao, cap, rfl, hc, hn, hx⟩ := hs
  have hu : Tryd.prog.underlying 30 = some (.slice (Tryd.prog.elem 30)) := by rw [elem_bytes]; exact Tryd.underlying30
  refine ⟨sliced ao l h cap 1, ?_, fun u => ?_, ?_, ?_⟩
  · refine ⟨if cap = l then ao else ao.map (·.add (l * 1)), cap - l, ?_, ?_, ?_, ?_⟩
    · simp [sliced]; omega
    · simp; omega
    · intro e
      split at e
      · omega
      · simp at e; have := hn e; omega
    · intro hne
      have hb : bs ≠ [] := by rintro rfl; simp at hne
      obtain ⟨b, o, rfl, hbb, ha⟩ := hx hb
      have hlt : l < h := by
        rcases Nat.lt_or_ge l h with h1 | h1
        · exact h1
        · exact absurd (by rw [show h - l = 0 by omega]; simp) hne
      rw [if_neg (by omega)]
      refine ⟨b, o + l, by simp [Addr.add_lit], hbb, ?_⟩
      intro i hi
      have hi' : i < h - l ∧ l + i < bs.length := by simp at hi; omega
      rw [Nat.add_assoc, ha (l + i) hi'.2]
      simp
  · rw [run_slice_lh u 30 ao _ cap hu .i64 .i64 _ _ (by omega) (by omega) (by omega), elem_bytes, size_u8]
    simp [Result.andThen]
  · rintro rfl u
    rw [run_slice_h u 30 ao _ cap hu .i64 _ (by omega) (by omega), elem_bytes, size_u8]
    simp [Result.andThen]
  · rintro rfl u
    rw [run_slice_l u 30 ao _ cap hu .i64 _ (by omega) (by omega), elem_bytes, size_u8]
    simp [Result.andThen]
end Go.Proofs.YtooclofdljampaaDoor

set_option linter.unusedVariables false
namespace Go.Proofs.YtooclofdljampaaDoor
open Go Go.RowKit

/-- What a reader's take leaves: whether it has taken, what is left, the fault. -/
theorem rdr_cells {base : Nat} {w : World} {r : Nat} {bs : List UInt8} {fv : Value} (h : Rdr base w r bs fv) :
    ∃ v, Sl base w v bs ∧ w.heap[r]? = some (.cells #[v, fv] 102 (0, 0)) ∧ w.cell? ⟨r, 0, none⟩ = some v ∧ w.cell? ⟨r, 1, none⟩ = some fv ∧ w.frozen? ⟨r, 0, none⟩ = false ∧ w.frozen? ⟨r, 1, none⟩ = false := by
  obtain ⟨v, h, hs⟩ := h
  refine ⟨v, hs, h, ?_, ?_, ?_, ?_⟩
  · rw [cell_of_row w r 0 _ _ _ h]; rfl
  · rw [cell_of_row w r 1 _ _ _ h]; rfl
  · simp [World.frozen?, h]
  · simp [World.frozen?, h]

theorem rdr_set_fault {base : Nat} {w : World} {r : Nat} {bs : List UInt8} {fv : Value} (h : Rdr base w r bs fv) (hf : ∀ k n, fv ≠ .int k n) (u : Value) : Rdr base (w.setCell ⟨r, 1, none⟩ u) r bs u := by
  obtain ⟨v, h, hs⟩ := h
  refine ⟨v, ?_, sl_but h hs.ne_int hf hs (But.setCell w r 1 u)⟩
  rw [heap_setCell2 w r _ 1 _ u h]; rfl

theorem rdr_set_left {base : Nat} {w : World} {r : Nat} {bs cs : List UInt8} {fv v' : Value} (h : Rdr base w r bs fv) (hf : ∀ k n, fv ≠ .int k n) (hs' : Sl base w v' cs) : Rdr base (w.setCell ⟨r, 0, none⟩ v') r cs fv := by
  obtain ⟨v, h, hs⟩ := h
  refine ⟨v', ?_, sl_but h hs.ne_int hf hs' (But.setCell w r 0 v')⟩
  rw [heap_setCell2 w r _ 0 _ v' h]; rfl

/-- (*cursor).take behind a fault. -/
theorem take_fault (base : Nat) (r : Nat) (bs : List UInt8) (t : TypeId) (x : Value) (n : Nat) (w : World) (h : Rdr base w r bs (.iface t x)) :
    Calls Tryd.prog 80 #[.pointer (some ⟨r, 0, none⟩), .int .i64 n] w fun e w' => e = .returned (.slice none 0 0) ∧ w' = w := by
  obtain ⟨v, hs, hh, h0, h1, f0, f1⟩ := rdr_cells h
  clear h
  go_enter Tryd.func80, Tryd.ntmps80
  go_wp2
  go_ret
  exact ⟨rfl, rfl⟩

/-- (*cursor).take where too little is left. -/
theorem take_short (base : Nat) (r : Nat) (bs : List UInt8) (n : Nat) (a : Addr) (w : World) (h : Rdr base w r bs .nilIface) (hg : Gl w 1 a) (hn : bs.length < n) :
    Calls Tryd.prog 80 #[.pointer (some ⟨r, 0, none⟩), .int .i64 n] w fun e w' => e = .returned (.slice none 0 0) ∧ Rdr base w' r bs (E a) ∧ But r w w' := by
  obtain ⟨v, hs, hh, h0, h1, f0, f1⟩ := rdr_cells h
  have hr := rdr_set_fault h (by intro k n e; cases e) (E a)
  obtain ⟨ao, cap, rfl, _⟩ := hs
  have hc := hg.cell
  clear h
  go_enter Tryd.func80, Tryd.ntmps80
  go_wp2
  go_ret
  exact ⟨rfl, hr, But.setCell _ _ _ _⟩

/-- (*cursor).take. -/
theorem take_ok (base : Nat) (r : Nat) (bs : List UInt8) (n : Nat) (w : World) (h : Rdr base w r bs .nilIface) (hn : n ≤ bs.length) :
    Calls Tryd.prog 80 #[.pointer (some ⟨r, 0, none⟩), .int .i64 n] w fun e w' => ∃ v, e = .returned v ∧ Sl base w' v (bs.take n) ∧ Rdr base w' r (bs.drop n) .nilIface ∧ But r w w' := by
  obtain ⟨v, hs, hh, h0, h1, f0, f1⟩ := rdr_cells h
  obtain ⟨v1, hs1, _, hh1, _⟩ := sl_cut hs 0 n (by omega) hn
  have hcut1 := hh1 rfl
  obtain ⟨v2, hs2, _, _, hh2⟩ := sl_cut hs n bs.length hn (by omega)
  have hcut2 := hh2 rfl
  clear hh1 hh2
  have hr := rdr_set_left h (by intro k n e; cases e) hs2
  rw [List.take_of_length_le (by simp)] at hr
  have hs3 := sl_but hh hs.ne_int (by intro k n e; cases e) hs1 (But.setCell w r 0 v2)
  simp only [List.drop_zero, Nat.sub_zero] at hs3
  have hx2 := hs2.ne_int
  obtain ⟨ao2, cap2, rfl, _⟩ := hs2
  rw [show ((bs.drop n).take (bs.length - n)).length = bs.length - n by simp] at hcut2 hs3 hr
  obtain ⟨ao, cap, rfl, _⟩ := hs
  clear h
  go_enter Tryd.func80, Tryd.ntmps80
  go_wp2
  go_ret
  exact ⟨_, rfl, hs3, hr, But.setCell _ _ _ _⟩

/-- The number of a row of bytes, the lowest first. -/
def unle : List UInt8 → Nat
  | [] => 0
  | c :: r => c.toNat + 256 * unle r

theorem unle_lt (bs : List UInt8) : unle bs < 256 ^ bs.length := by
  induction bs with
  | nil => simp [unle]
  | cons c r ih =>
    have := c.toNat_lt
    simp only [unle, List.length_cons, Nat.pow_succ]
    omega

theorem unle_snoc (bs : List UInt8) (c : UInt8) : unle (bs ++ [c]) = unle bs + 256 ^ bs.length * c.toNat := by
  induction bs with
  | nil => simp [unle]
  | cons d r ih => simp only [List.cons_append, unle, ih, List.length_cons, Nat.pow_succ]; rw [Nat.mul_add, Nat.add_assoc, Nat.mul_comm (256 ^ r.length) 256, Nat.mul_assoc]

/-- A group of bits laid above those that are there. -/
theorem or_place (x c s : Nat) (hx : x < 2 ^ s) (hc : 2 ^ s * c < 18446744073709551616) (hx2 : x < 18446744073709551616) :
    bits .or .u64 (x : Int) (IntKind.u64.wrap (IntKind.u64.wrap (c : Int) * 2 ^ s)) = ((x + 2 ^ s * c : Nat) : Int) := by
  have h1 : (1 : Nat) ≤ 2 ^ s := Nat.one_le_two_pow
  have hc2 : c < 18446744073709551616 := Nat.lt_of_le_of_lt (Nat.le_mul_of_pos_left c h1) hc
  have e1 : IntKind.u64.wrap (c : Int) = (c : Int) := by rw [IntKind.wrap_u64]; omega
  have e2 : (c : Int) * 2 ^ s = ((2 ^ s * c : Nat) : Int) := by push_cast; rw [Int.mul_comm]
  have e3 : IntKind.u64.wrap ((2 ^ s * c : Nat) : Int) = ((2 ^ s * c : Nat) : Int) := by rw [IntKind.wrap_u64]; omega
  rw [e1, e2, e3, u64_or_nat x (2 ^ s * c) hx2 hc, Nat.or_comm, ← Nat.two_pow_add_eq_or_of_lt hx, Nat.add_comm]

set_option maxHeartbeats 400000 in
/-- (*cursor).whole behind a fault. -/
theorem whole_fault (base : Nat) (r : Nat) (bs : List UInt8) (t : TypeId) (x : Value) (n : Nat) (w : World) (h : Rdr base w r bs (.iface t x)) :
    Calls Tryd.prog 61 #[.pointer (some ⟨r, 0, none⟩), .int .i64 n] w fun e w' => e = .returned (.int .u64 0) ∧ w' = w := by
  go_enter Tryd.func61, Tryd.ntmps61
  go_wp2_with fail
  refine (take_fault base r bs t x n _ h).mono ?_
  rintro e w1 ⟨rfl, rfl⟩
  go_wp2_with fail
  refine wp_loop_rounds 1 ?_
  rw [rounds_succ]
  go_wp2
  go_ret
  exact ⟨rfl, rfl⟩

set_option maxHeartbeats 400000 in
theorem whole_short (base : Nat) (r : Nat) (bs : List UInt8) (n : Nat) (a : Addr) (w : World) (h : Rdr base w r bs .nilIface) (hg : Gl w 1 a) (hn : bs.length < n) :
    Calls Tryd.prog 61 #[.pointer (some ⟨r, 0, none⟩), .int .i64 n] w fun e w' => e = .returned (.int .u64 0) ∧ Rdr base w' r bs (E a) ∧ But r w w' := by
  go_enter Tryd.func61, Tryd.ntmps61
  go_wp2_with fail
  refine (take_short base r bs n a _ h hg hn).mono ?_
  rintro e w1 ⟨rfl, h1, h2⟩
  go_wp2_with fail
  refine wp_loop_rounds 1 ?_
  rw [rounds_succ]
  go_wp2
  go_ret
  exact ⟨rfl, h1, h2⟩

set_option maxHeartbeats 400000 in
theorem whole_ok (base : Nat) (r : Nat) (bs : List UInt8) (n : Nat) (w : World) (h : Rdr base w r bs .nilIface) (hn : n ≤ bs.length) (h8 : n ≤ 8) :
    Calls Tryd.prog 61 #[.pointer (some ⟨r, 0, none⟩), .int .i64 n] w fun e w' => e = .returned (.int .u64 (unle (bs.take n))) ∧ Rdr base w' r (bs.drop n) .nilIface ∧ But r w w' := by
  go_enter Tryd.func61, Tryd.ntmps61
  go_wp2_with fail
  refine (take_ok base r bs n _ h hn).mono ?_
  rintro e w1 ⟨v1, rfl, hs, h1, h2⟩
  obtain ⟨ao, cap, rfl, _, _, hx⟩ := hs
  have hlen : (bs.take n).length = n := by simp; omega
  rw [hlen]
  go_wp2_with fail
  go_loop [5, 12] (fun x i => ∃ k : Nat, k ≤ n ∧ i = .int .i64 k ∧ x = .int .u64 (unle ((bs.take n).take k))) (fun _ i => n - (intOf i).toNat)
  case atStart => exact ⟨0, Nat.zero_le _, rfl, by simp [unle]⟩
  case round =>
    obtain ⟨k, hk, rfl, rfl⟩ := hrel
    by_cases hlt : k < n
    · obtain ⟨b, o, rfl, _, ha⟩ := hx (by intro e; rw [e] at hlen; simp at hlen; omega)
      have hc := ha k (by omega)
      have hst : Hid (((unle ((bs.take n).take (k + 1)) : Nat) : Int) = bits .or .u64 (unle ((bs.take n).take k)) (IntKind.u64.wrap (IntKind.u64.wrap ((bs[k]'(by omega)).toNat : Int) * 2 ^ (8 * k)))) := by
        have hl := unle_lt ((bs.take n).take k)
        have hkl : ((bs.take n).take k).length = k := by simp; omega
        rw [hkl] at hl
        have h256 : (256 : Nat) ^ k = 2 ^ (8 * k) := by rw [Nat.pow_mul]
        have hb := (bs[k]'(by omega)).toNat_lt
        have hpow : (2 : Nat) ^ (8 * k) ≤ 2 ^ 56 := Nat.pow_le_pow_right (by omega) (by omega)
        have hmul : 2 ^ (8 * k) * (bs[k]'(by omega)).toNat ≤ 2 ^ 56 * 255 := Nat.mul_le_mul hpow (by omega)
        rw [or_place _ _ _ (by rw [← h256]; exact hl) (by omega) (by omega)]
        have e : (bs.take n).take (k + 1) = (bs.take n).take k ++ [bs[k]'(by omega)] := by
          rw [List.take_succ_eq_append_getElem (by omega)]; simp
        rw [e, unle_snoc, hkl, h256]
        rfl
      go_wp2
      go_round
      case rel => exact ⟨k + 1, by omega, by go_num, by rw [hst.out]⟩
      case measure => simp [intOf]; omega
    · obtain rfl : k = n := by omega
      have hfin : Hid (unle ((bs.take k).take k) = unle (bs.take k)) := by rw [List.take_of_length_le (by omega)]; rfl
      go_wp2
      go_ret
      exact ⟨congrArg (fun q : Nat => Ending.returned (.int .u64 (q : Int))) hfin.out, h1, h2⟩

/-! The reader as a machine over lists: what a call answers and leaves. aS: the address of ErrShort. -/
def wholeA (n : Nat) (bs : List UInt8) : Value → Nat
  | .nilIface => if n ≤ bs.length then unle (bs.take n) else 0
  | _ => 0
def wholeL (n : Nat) (bs : List UInt8) : Value → List UInt8
  | .nilIface => if n ≤ bs.length then bs.drop n else bs
  | _ => bs
def wholeF (aS : Addr) (n : Nat) (bs : List UInt8) : Value → Value
  | .nilIface => if n ≤ bs.length then .nilIface else E aS
  | v => v

/-- A fault: none, or some error. -/
def isF (v : Value) : Prop := v = .nilIface ∨ ∃ a, v = E a

theorem whole_any (base : Nat) (r : Nat) (bs : List UInt8) (fv : Value) (n : Nat) (a : Addr) (w : World) (h : Rdr base w r bs fv) (hf : isF fv) (hg : Gl w 1 a) (h8 : n ≤ 8) :
    Calls Tryd.prog 61 #[.pointer (some ⟨r, 0, none⟩), .int .i64 n] w fun e w' => e = .returned (.int .u64 (wholeA n bs fv)) ∧ Rdr base w' r (wholeL n bs fv) (wholeF a n bs fv) ∧ But r w w' := by
  rcases hf with rfl | ⟨x, rfl⟩
  · by_cases hn : n ≤ bs.length
    · simp only [wholeA, wholeL, wholeF, if_pos hn]
      exact whole_ok base r bs n w h hn h8
    · simp only [wholeA, wholeL, wholeF, if_neg hn]
      exact whole_short base r bs n a w h hg (by omega)
  · refine (whole_fault base r bs _ _ n w h).mono ?_
    rintro e w' ⟨rfl, rfl⟩
    exact ⟨rfl, h, But.refl _ _⟩

theorem wholeA_lt (n : Nat) (bs : List UInt8) (fv : Value) : wholeA n bs fv < 256 ^ n := by
  have h1 : 0 < 256 ^ n := Nat.pow_pos (by omega)
  unfold wholeA
  split
  · split
    · have := unle_lt (bs.take n)
      rwa [show (bs.take n).length = n by simp; omega] at this
    · exact h1
  · exact h1

theorem wholeF_is (a : Addr) (n : Nat) (bs : List UInt8) {fv : Value} (hf : isF fv) : isF (wholeF a n bs fv) := by
  rcases hf with rfl | ⟨x, rfl⟩
  · simp only [wholeF]; split
    · exact .inl rfl
    · exact .inr ⟨a, rfl⟩
  · exact .inr ⟨x, rfl⟩

theorem U64_any (base : Nat) (r : Nat) (bs : List UInt8) (fv : Value) (a : Addr) (w : World) (h : Rdr base w r bs fv) (hf : isF fv) (hg : Gl w 1 a) :
    Calls Tryd.prog 46 #[.pointer (some ⟨r, 0, none⟩)] w fun e w' => e = .returned (.int .u64 (wholeA 8 bs fv)) ∧ Rdr base w' r (wholeL 8 bs fv) (wholeF a 8 bs fv) ∧ But r w w' := by
  go_enter Tryd.func46, Tryd.ntmps46
  go_wp2_with fail
  refine (whole_any base r bs fv 8 a _ h hf hg (by omega)).mono ?_
  rintro e w1 ⟨rfl, h1, h2⟩
  go_wp2
  go_ret
  exact ⟨rfl, h1, h2⟩

theorem U32_any (base : Nat) (r : Nat) (bs : List UInt8) (fv : Value) (a : Addr) (w : World) (h : Rdr base w r bs fv) (hf : isF fv) (hg : Gl w 1 a) :
    Calls Tryd.prog 47 #[.pointer (some ⟨r, 0, none⟩)] w fun e w' => e = .returned (.int .u32 (wholeA 4 bs fv)) ∧ Rdr base w' r (wholeL 4 bs fv) (wholeF a 4 bs fv) ∧ But r w w' := by
  have hlt := wholeA_lt 4 bs fv
  go_enter Tryd.func47, Tryd.ntmps47
  go_wp2_with fail
  refine (whole_any base r bs fv 4 a _ h hf hg (by omega)).mono ?_
  rintro e w1 ⟨rfl, h1, h2⟩
  go_wp2
  go_ret
  exact ⟨rfl, h1, h2⟩


theorem U8_any (base : Nat) (r : Nat) (bs : List UInt8) (fv : Value) (a : Addr) (w : World) (h : Rdr base w r bs fv) (hf : isF fv) (hg : Gl w 1 a) :
    Calls Tryd.prog 63 #[.pointer (some ⟨r, 0, none⟩)] w fun e w' => e = .returned (.int .u8 (wholeA 1 bs fv)) ∧ Rdr base w' r (wholeL 1 bs fv) (wholeF a 1 bs fv) ∧ But r w w' := by
  have hlt := wholeA_lt 1 bs fv
  go_enter Tryd.func63, Tryd.ntmps63
  go_wp2_with fail
  refine (whole_any base r bs fv 1 a _ h hf hg (by omega)).mono ?_
  rintro e w1 ⟨rfl, h1, h2⟩
  go_wp2
  go_ret
  exact ⟨rfl, h1, h2⟩
end Go.Proofs.YtooclofdljampaaDoor

set_option linter.unusedVariables false
namespace Go.Proofs.YtooclofdljampaaDoor
open Go Go.RowKit

/-- The number at the front: the number, how many bytes it has, the fault. i: so many groups are behind, x: their number. -/
def numR (aS aF : Addr) : Nat → Nat → List UInt8 → Nat × Nat × Value
  | _, _, [] => (0, 0, E aS)
  | i, x, c :: r =>
    if (0 < i ∧ c.toNat = 0) ∨ (i = 9 ∧ 1 < c.toNat) then (0, 0, E aF)
    else if c.toNat < 128 then (x + 2 ^ (7 * i) * (c.toNat % 128), i + 1, .nilIface)
    else numR aS aF (i + 1) (x + 2 ^ (7 * i) * (c.toNat % 128)) r

/-- What firstNumber's loop keeps. -/
def NumK (aS aF : Addr) (bs : List UInt8) (k x : Nat) : Prop := k ≤ 9 ∧ x < 2 ^ (7 * k) ∧ numR aS aF 0 0 bs = numR aS aF k x (bs.drop k)

theorem NumK.start (aS aF : Addr) (bs : List UInt8) : NumK aS aF bs 0 0 := ⟨by omega, by simp, rfl⟩
theorem NumK.le {aS aF : Addr} {bs : List UInt8} {k x : Nat} (h : NumK aS aF bs k x) : k ≤ 9 := h.1
theorem NumK.short {aS aF : Addr} {bs : List UInt8} {k x : Nat} (h : NumK aS aF bs k x) (hk : k = bs.length) : numR aS aF 0 0 bs = (0, 0, E aS) := by
  rw [h.2.2, hk, List.drop_length]; rfl
theorem NumK.eq {aS aF : Addr} {bs : List UInt8} {k x : Nat} (h : NumK aS aF bs k x) (hk : k < bs.length) :
    numR aS aF 0 0 bs = if (0 < k ∧ bs[k].toNat = 0) ∨ (k = 9 ∧ 1 < bs[k].toNat) then (0, 0, E aF)
    else if bs[k].toNat < 128 then (x + 2 ^ (7 * k) * (bs[k].toNat % 128), k + 1, .nilIface)
    else numR aS aF (k + 1) (x + 2 ^ (7 * k) * (bs[k].toNat % 128)) (bs.drop (k + 1)) := by
  rw [h.2.2, List.drop_eq_getElem_cons hk]; rfl
theorem NumK.next {aS aF : Addr} {bs : List UInt8} {k x : Nat} (h : NumK aS aF bs k x) (hk : k < bs.length) (h1 : ¬ ((0 < k ∧ bs[k].toNat = 0) ∨ (k = 9 ∧ 1 < bs[k].toNat))) (h2 : ¬ bs[k].toNat < 128) :
    NumK aS aF bs (k + 1) (x + 2 ^ (7 * k) * (bs[k].toNat % 128)) := by
  have he := h.eq hk
  rw [if_neg h1, if_neg h2] at he
  refine ⟨?_, ?_, he⟩
  · have := h.1; omega
  · have hx := h.2.1
    have hc : bs[k].toNat % 128 < 128 := Nat.mod_lt _ (by omega)
    have e : 2 ^ (7 * (k + 1)) = 2 ^ (7 * k) * 128 := by rw [show 7 * (k + 1) = 7 * k + 7 by omega, Nat.pow_add]
    rw [e]
    have : 2 ^ (7 * k) * (bs[k].toNat % 128) ≤ 2 ^ (7 * k) * 127 := Nat.mul_le_mul_left _ (by omega)
    omega

/-- What a round of firstNumber answers, or hands on: one lemma a way. -/
theorem NumK.bad {aS aF : Addr} {bs : List UInt8} {k x : Nat} (h : NumK aS aF bs k x) (hk : k < bs.length) (hb : (0 < k ∧ bs[k].toNat = 0) ∨ (k = 9 ∧ 1 < bs[k].toNat)) : numR aS aF 0 0 bs = (0, 0, E aF) := by
  rw [h.eq hk, if_pos hb]
theorem NumK.last {aS aF : Addr} {bs : List UInt8} {k x : Nat} (h : NumK aS aF bs k x) (hk : k < bs.length) (hb : ¬ ((0 < k ∧ bs[k].toNat = 0) ∨ (k = 9 ∧ 1 < bs[k].toNat))) (h2 : bs[k].toNat < 128) :
    numR aS aF 0 0 bs = (x + 2 ^ (7 * k) * (bs[k].toNat % 128), k + 1, .nilIface) := by
  rw [h.eq hk, if_neg hb, if_pos h2]
theorem NumK.or {aS aF : Addr} {bs : List UInt8} {k x : Nat} (h : NumK aS aF bs k x) (hk : k < bs.length) (h9 : k = 9 → bs[k].toNat ≤ 1) :
    bits .or .u64 (x : Int) (IntKind.u64.wrap (IntKind.u64.wrap ((bs[k].toNat % 128 : Nat) : Int) * 2 ^ (7 * k))) = ((x + 2 ^ (7 * k) * (bs[k].toNat % 128) : Nat) : Int) := by
  have hx := h.2.1
  have hc : bs[k].toNat % 128 < 128 := Nat.mod_lt _ (by omega)
  have h9' := h.1
  have hx2 : x < 2 ^ 63 := Nat.lt_of_lt_of_le hx (Nat.pow_le_pow_right (by omega) (by omega))
  refine or_place _ _ _ hx ?_ (by omega)
  rcases Nat.lt_or_ge k 9 with hk9 | hk9
  · have hp : (2 : Nat) ^ (7 * k) ≤ 2 ^ 56 := Nat.pow_le_pow_right (by omega) (by omega)
    have := Nat.mul_le_mul hp (show bs[k].toNat % 128 ≤ 127 by omega)
    omega
  · obtain rfl : k = 9 := by omega
    have := h9 rfl
    have hm : bs[9].toNat % 128 ≤ 1 := by omega
    have := Nat.mul_le_mul_left (2 ^ (7 * 9)) hm
    omega

theorem and127_fin : ∀ a : Fin 256, bits .and .u8 (a.val : Int) 127 = ((a.val % 128 : Nat) : Int) := by decide +kernel
theorem and127_any (q : Nat) (h : q < 256) : bits .and .u8 (q : Int) 127 = ((q % 128 : Nat) : Int) := and127_fin ⟨q, h⟩

theorem tup3 {a b : Int} {c d : Int} {x y : Value} (h1 : a = b) (h2 : c = d) (h3 : x = y) : Ending.returned (.tuple #[.int .u64 a, .int .i64 c, x]) = .returned (.tuple #[.int .u64 b, .int .i64 d, y]) := by rw [h1, h2, h3]

end Go.Proofs.YtooclofdljampaaDoor
