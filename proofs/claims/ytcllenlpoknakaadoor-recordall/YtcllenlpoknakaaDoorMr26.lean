/- Merged: Lives, Laid. -/
import Derived.Test.YtcllenlpoknakaaDoorMr18
import Derived.Deep.RegionWith
import Derived.Test.YtcllenlpoknakaaDoorRows
import Derived.LaidLaws
import Derived.LaidSub
import Derived.Stop.LaidErr
import Derived.MakeChecks
import Derived.ProofKit
set_option linter.unusedVariables false
namespace Go.Proofs.YtcllenlpoknakaaDoor
open Go Go.RowKit

theorem str_eq (xs bs : List UInt8) : (xs == bs) = decide (xs = bs) := by
  by_cases h : xs = bs <;> simp [h]


theorem sl_new (w : World) (bs : List UInt8) (e : TypeId) : Sl w.heap.size (w.alloc (.cells (Bv bs).toArray e)) (.slice (some ⟨w.heap.size, 0, none⟩) bs.length bs.length) bs := by
  refine ⟨_, _, rfl, Nat.le_refl _, (by intro h; cases h), fun _ => ⟨_, _, rfl, Nat.le_refl _, ?_⟩⟩
  intro i hi
  rw [cell_of_row _ _ _ _ _ _ (heap_alloc_new _ _)]
  simp [hi]

theorem vn300 : vn 300 = [172, 2] := by decide +kernel
theorem num300 (aS aF : Addr) : numR aS aF 0 0 [172, 2] = (300, 2, .nilIface) := by rfl

/-- What the laws of this package know of the package's errors: where they lie. -/
structure Errs (w : World) (aS aF aN : Addr) : Prop where
  short : Gl w 1 aS
  form : Gl w 2 aF
  nil : Gl w 4 aN
theorem Errs.up {w w' : World} {aS aF aN : Addr} (h : Errs w aS aF aN) (hu : Up w w') : Errs w' aS aF aN := ⟨h.short.up hu, h.form.up hu, h.nil.up hu⟩

theorem Gl.but {w w' : World} {g r : Nat} {a : Addr} (h : Gl w g a) (hr : r ≠ g) (hb : But r w w') : Gl w' g a := by
  have hl := h.lt
  obtain ⟨t, h⟩ := h
  exact ⟨t, by rw [hb.block g hl (by simp; omega)]; exact h⟩
theorem Errs.but {w w' : World} {aS aF aN : Addr} {r : Nat} (h : Errs w aS aF aN) (hr : 16 ≤ r) (hb : But r w w') : Errs w' aS aF aN :=
  ⟨h.short.but (by omega) hb, h.form.but (by omega) hb, h.nil.but (by omega) hb⟩
theorem gl_ne {base : Nat} {w : World} {g r : Nat} {a : Addr} {bs : List UInt8} {fv : Value} (h : Gl w g a) (hr : Rdr base w r bs fv) : r ≠ g := by
  rintro rfl
  obtain ⟨t, h⟩ := h
  obtain ⟨v, hr, _⟩ := hr
  rw [h] at hr
  simp at hr
theorem Errs.rdr {base : Nat} {w w' : World} {aS aF aN : Addr} {r : Nat} {bs : List UInt8} {fv : Value} (h : Errs w aS aF aN) (hr : Rdr base w r bs fv) (hb : But r w w') : Errs w' aS aF aN :=
  ⟨h.short.but (gl_ne h.short hr) hb, h.form.but (gl_ne h.form hr) hb, h.nil.but (gl_ne h.nil hr) hb⟩


/-- PackBytes' loop looks at eight bytes. -/
theorem le_get (n x i : Nat) (h : i < n) : (le n x)[i]? = some (UInt8.ofNat (x / 256 ^ i)) := by
  induction n generalizing x i with
  | zero => omega
  | succ n ih =>
    cases i with
    | zero => simp [le]
    | succ i => rw [le, List.getElem?_cons_succ, ih (x / 256) i (by omega), Nat.pow_succ, Nat.div_div_eq_div_mul, Nat.mul_comm 256]
theorem le_take (m n x : Nat) (h : m ≤ n) : (le n x).take m = le m x := by
  induction m generalizing n x with
  | zero => simp [le]
  | succ m ih =>
    cases n with
    | zero => omega
    | succ n => simp [le, ih n (x / 256) (by omega)]
theorem le_mod (m x : Nat) : le m (x % 256 ^ m) = le m x := by
  induction m generalizing x with
  | zero => rfl
  | succ m ih =>
    have e1 : x % 256 ^ (m + 1) / 256 = (x / 256) % 256 ^ m := by
      rw [Nat.pow_succ, Nat.mul_comm, Nat.mod_mul_right_div_self]
    have e2 : UInt8.ofNat (x % 256 ^ (m + 1)) = UInt8.ofNat x := by
      apply UInt8.toNat.inj
      rw [UInt8.toNat_ofNat', UInt8.toNat_ofNat']
      exact Nat.mod_mod_of_dvd x (by rw [Nat.pow_succ]; exact Nat.dvd_mul_left _ _)
    rw [le, le, e1, e2, ih]

end Go.Proofs.YtcllenlpoknakaaDoor

set_option linter.unusedVariables false
namespace Go.Proofs.YtcllenlpoknakaaDoor
open Go Go.RowKit Go.ChangeShapes Go.WideShapes

theorem Tryd.nameErr : Tryd.prog.typeName? 3 116 = some "*errors.errorString" := by kernel_rfl
theorem Tryd.cellsErr : Tryd.prog.cellsOf 132 = 1 := by kernel_rfl
theorem Tryd.cellsStr : Tryd.prog.cellsOf 9 = 1 := by kernel_rfl
theorem Tryd.star : "*" ++ "errors.errorString" = "*errors.errorString" := by decide
theorem Tryd.rowErr (u : TypeId) (h : Tryd.prog.typeName? 3 u = some "*errors.errorString") : u = 116 :=
  typeName_ptr_named (nm := "errors.errorString") (by rw [Tryd.star]; kernel_rfl) (by kernel_rfl) (by decide) u (by rw [Tryd.star]; exact h)

/-- The error at a reads as this text, in a block of cells. -/
structure ErrAt (w : World) (a : Addr) (text : List UInt8) : Prop where
  cell : ∃ s : ByteArray, w.cell? a = some (.string s) ∧ s.data.toList = text
  block : ∃ c t, w.heap[a.block]? = some (.cells c t (0, 0))

set_option maxRecDepth 20000 in
theorem gl_of_laid {n : String} {g : Nat} {text : List UInt8} {l : List (String × DataW Unit)} {W : World} (h : laidMetH Tryd.prog l W)
    (hl : (l.filter fun x => x.1 == n) = [(n, .iface "*errors.errorString" (.ptr (.agg [.lit (.string text)])))]) (hp : (l.all fun x => x.2.handleName?.isNone) = true)
    (hg : Tryd.prog.globalNamed n = some g) (ht : (Tryd.prog.globals[g]?).map (·.type) = some 37) : ∃ a, Gl W g a ∧ ErrAt W a text := by
  have h1 := h.filter (fun x => x.1 == n)
  rw [hl, MakeChecks.laidMetH_plain _ _ _ (by rfl)] at h1
  obtain ⟨ps, ⟨g0, t0, cs0, f0, p0, q0, hg0, ht0, hv0, hd0, hq0, e0⟩, hnd, hrows⟩ := h1
  obtain rfl := Option.some.inj (hg.symm.trans hg0)
  obtain rfl := Option.some.inj (ht.symm.trans ht0)
  have hq0' : q0 = [] := hq0
  subst hq0' e0
  obtain ⟨l0⟩ := cs0
  have ok0 : ∀ u v, l0 = [.iface u v] → Value.okWide Tryd.prog W .any 0 u v := fun u v e => by
    subst e
    exact (hrows g 0 (by simp [MemPlace.row])).2 u v (by simpa using World.var?_cell hg0 hv0 0)
  obtain ⟨a0, s0, rfl, hc0, hs0, hz0, rfl⟩ := errorString_of_trod Tryd.underlying37 Tryd.rowErr Tryd.underlying116 Tryd.underlying132 rfl rfl Tryd.underlying9 Tryd.cellsErr Tryd.cellsStr hd0 ok0
  obtain ⟨c0, t0, hb0⟩ := (hrows a0.block a0.off (by simp [MemPlace.row])).1
  obtain ⟨c1, t1, hb1⟩ := (hrows g 0 (by simp [MemPlace.row])).1
  refine ⟨a0, ⟨t1, ?_⟩, ⟨⟨s0, hc0, hs0⟩, c0, t0, hb0⟩⟩
  simp only [World.var?, hg, Option.bind_some, hb1] at hv0
  rw [hb1]
  simpa using hv0

theorem own : ownKnob Tryd.prog.godebug = none := by kernel_rfl
theorem Tryd.gShort : Tryd.prog.globalNamed "turnstile/api.ErrShort" = some 1 := by kernel_rfl
theorem Tryd.gForm : Tryd.prog.globalNamed "turnstile/api.ErrForm" = some 2 := by kernel_rfl
theorem Tryd.gNil : Tryd.prog.globalNamed "turnstile/api.ErrNil" = some 4 := by kernel_rfl
theorem Tryd.gtShort : (Tryd.prog.globals[1]?).map (·.type) = some 37 := by kernel_rfl
theorem Tryd.gtForm : (Tryd.prog.globals[2]?).map (·.type) = some 37 := by kernel_rfl
theorem Tryd.gtNil : (Tryd.prog.globals[4]?).map (·.type) = some 37 := by kernel_rfl
end Go.Proofs.YtcllenlpoknakaaDoor
