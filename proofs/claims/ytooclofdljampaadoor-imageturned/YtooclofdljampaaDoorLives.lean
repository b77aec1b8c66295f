/- The laws of layer 1: what alike and lives answer; where the errors lie. -/
import Derived.Test.YtooclofdljampaaDoorMiC
import Derived.Deep.RegionWith
set_option linter.unusedVariables false
namespace Go.Proofs.YtooclofdljampaaDoor
open Go Go.RowKit

theorem str_eq (xs bs : List UInt8) : (xs == bs) = decide (xs = bs) := by
  by_cases h : xs = bs <;> simp [h]


theorem sl_new (w : World) (bs : List UInt8) (e : TypeId) : Sl w.heap.size (w.alloc (.cells (Bv bs).toArray e)) (.slice (some ⟨w.heap.size, 0, none⟩) bs.length bs.length) bs := by
  refine ⟨_, _, rfl, Nat.le_refl _, (by intro h; cases h), fun _ => ⟨_, _, rfl, Nat.le_refl _, ?_⟩⟩
  intro i hi
  rw [cell_of_row _ _ _ _ _ _ (heap_alloc_new _ _)]
  simp [hi]

theorem vn300 : vn 300 = [172, 2] := by decide +kernel
theorem num300 (aS aF : Addr) : numR aS aF 0 0 [172, 2] = (300, 2, .nilIface) := by rfl

/-- What the laws of this package know of the package's errors: where they lie. -/
structure Errs (w : World) (aS aF aN : Addr) : Prop where
  short : Gl w 1 aS
  form : Gl w 2 aF
  nil : Gl w 14 aN
theorem Errs.up {w w' : World} {aS aF aN : Addr} (h : Errs w aS aF aN) (hu : Up w w') : Errs w' aS aF aN := ⟨h.short.up hu, h.form.up hu, h.nil.up hu⟩

theorem Gl.but {w w' : World} {g r : Nat} {a : Addr} (h : Gl w g a) (hr : r ≠ g) (hb : But r w w') : Gl w' g a := by
  have hl := h.lt
  obtain ⟨t, h⟩ := h
  exact ⟨t, by rw [hb.block g hl (by simp; omega)]; exact h⟩
theorem Errs.but {w w' : World} {aS aF aN : Addr} {r : Nat} (h : Errs w aS aF aN) (hr : 16 ≤ r) (hb : But r w w') : Errs w' aS aF aN :=
  ⟨h.short.but (by omega) hb, h.form.but (by omega) hb, h.nil.but (by omega) hb⟩
theorem gl_ne {base : Nat} {w : World} {g r : Nat} {a : Addr} {bs : List UInt8} {fv : Value} (h : Gl w g a) (hr : Rdr base w r bs fv) : r ≠ g := by
  rintro rfl
  obtain ⟨t, h⟩ := h
  obtain ⟨v, hr, _⟩ := hr
  rw [h] at hr
  simp at hr
theorem Errs.rdr {base : Nat} {w w' : World} {aS aF aN : Addr} {r : Nat} {bs : List UInt8} {fv : Value} (h : Errs w aS aF aN) (hr : Rdr base w r bs fv) (hb : But r w w') : Errs w' aS aF aN :=
  ⟨h.short.but (gl_ne h.short hr) hb, h.form.but (gl_ne h.form hr) hb, h.nil.but (gl_ne h.nil hr) hb⟩


/-- PackBytes' loop looks at eight bytes. -/
theorem le_get (n x i : Nat) (h : i < n) : (le n x)[i]? = some (UInt8.ofNat (x / 256 ^ i)) := by
  induction n generalizing x i with
  | zero => omega
  | succ n ih =>
    cases i with
    | zero => simp [le]
    | succ i => rw [le, List.getElem?_cons_succ, ih (x / 256) i (by omega), Nat.pow_succ, Nat.div_div_eq_div_mul, Nat.mul_comm 256]
theorem le_take (m n x : Nat) (h : m ≤ n) : (le n x).take m = le m x := by
  induction m generalizing n x with
  | zero => simp [le]
  | succ m ih =>
    cases n with
    | zero => omega
    | succ n => simp [le, ih n (x / 256) (by omega)]
theorem le_mod (m x : Nat) : le m (x % 256 ^ m) = le m x := by
  induction m generalizing x with
  | zero => rfl
  | succ m ih =>
    have e1 : x % 256 ^ (m + 1) / 256 = (x / 256) % 256 ^ m := by
      rw [Nat.pow_succ, Nat.mul_comm, Nat.mod_mul_right_div_self]
    have e2 : UInt8.ofNat (x % 256 ^ (m + 1)) = UInt8.ofNat x := by
      apply UInt8.toNat.inj
      rw [UInt8.toNat_ofNat', UInt8.toNat_ofNat']
      exact Nat.mod_mod_of_dvd x (by rw [Nat.pow_succ]; exact Nat.dvd_mul_left _ _)
    rw [le, le, e1, e2, ih]

end Go.Proofs.YtooclofdljampaaDoor
