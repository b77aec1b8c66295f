/- Merged: Lives, Laid, Errs, Args, ImTab. -/
import Derived.Test.YtooclofdljampaaDoorMiC
import Derived.Deep.RegionWith
import Derived.Test.YtooclofdljampaaDoorRows
import Derived.LaidLaws
import Derived.LaidSub
import Derived.Stop.LaidErr
import Derived.MakeChecks
import Derived.ProofKit
import Derived.LaidEql
import Derived.OpenShut
import Derived.SizedLaws
set_option linter.unusedVariables false
namespace Go.Proofs.YtooclofdljampaaDoor
open Go Go.RowKit

theorem str_eq (xs bs : List UInt8) : (xs == bs) = decide (xs = bs) := by
  by_cases h : xs = bs <;> simp [h]


theorem sl_new (w : World) (bs : List UInt8) (e : TypeId) : Sl w.heap.size (w.alloc (.cells (Bv bs).toArray e)) (.slice (some ⟨w.heap.size, 0, none⟩) bs.length bs.length) bs := by
  refine ⟨_, _, rfl, Nat.le_refl _, (by intro h; cases h), fun _ => ⟨_, _, rfl, Nat.le_refl _, ?_⟩⟩
  intro i hi
  rw [cell_of_row _ _ _ _ _ _ (heap_alloc_new _ _)]
  simp [hi]

theorem vn300 : vn 300 = [172, 2] := by decide +kernel
theorem num300 (aS aF : Addr) : numR aS aF 0 0 [172, 2] = (300, 2, .nilIface) := by rfl

/-- What the laws of this package know of the package's errors: where they lie. -/
structure Errs (w : World) (aS aF aN : Addr) : Prop where
  short : Gl w 1 aS
  form : Gl w 2 aF
  nil : Gl w 14 aN
theorem Errs.up {w w' : World} {aS aF aN : Addr} (h : Errs w aS aF aN) (hu : Up w w') : Errs w' aS aF aN := ⟨h.short.up hu, h.form.up hu, h.nil.up hu⟩

theorem Gl.but {w w' : World} {g r : Nat} {a : Addr} (h : Gl w g a) (hr : r ≠ g) (hb : But r w w') : Gl w' g a := by
  have hl := h.lt
  obtain ⟨t, h⟩ := h
  exact ⟨t, by rw [hb.block g hl (by simp; omega)]; exact h⟩
theorem Errs.but {w w' : World} {aS aF aN : Addr} {r : Nat} (h : Errs w aS aF aN) (hr : 16 ≤ r) (hb : But r w w') : Errs w' aS aF aN :=
  ⟨h.short.but (by omega) hb, h.form.but (by omega) hb, h.nil.but (by omega) hb⟩
theorem gl_ne {base : Nat} {w : World} {g r : Nat} {a : Addr} {bs : List UInt8} {fv : Value} (h : Gl w g a) (hr : Rdr base w r bs fv) : r ≠ g := by
  rintro rfl
  obtain ⟨t, h⟩ := h
  obtain ⟨v, hr, _⟩ := hr
  rw [h] at hr
  simp at hr
theorem Errs.rdr {base : Nat} {w w' : World} {aS aF aN : Addr} {r : Nat} {bs : List UInt8} {fv : Value} (h : Errs w aS aF aN) (hr : Rdr base w r bs fv) (hb : But r w w') : Errs w' aS aF aN :=
  ⟨h.short.but (gl_ne h.short hr) hb, h.form.but (gl_ne h.form hr) hb, h.nil.but (gl_ne h.nil hr) hb⟩


/-- PackBytes' loop looks at eight bytes. -/
theorem le_get (n x i : Nat) (h : i < n) : (le n x)[i]? = some (UInt8.ofNat (x / 256 ^ i)) := by
  induction n generalizing x i with
  | zero => omega
  | succ n ih =>
    cases i with
    | zero => simp [le]
    | succ i => rw [le, List.getElem?_cons_succ, ih (x / 256) i (by omega), Nat.pow_succ, Nat.div_div_eq_div_mul, Nat.mul_comm 256]
theorem le_take (m n x : Nat) (h : m ≤ n) : (le n x).take m = le m x := by
  induction m generalizing n x with
  | zero => simp [le]
  | succ m ih =>
    cases n with
    | zero => omega
    | succ n => simp [le, ih n (x / 256) (by omega)]
theorem le_mod (m x : Nat) : le m (x % 256 ^ m) = le m x := by
  induction m generalizing x with
  | zero => rfl
  | succ m ih =>
    have e1 : x % 256 ^ (m + 1) / 256 = (x / 256) % 256 ^ m := by
      rw [Nat.pow_succ, Nat.mul_comm, Nat.mod_mul_right_div_self]
    have e2 : UInt8.ofNat (x % 256 ^ (m + 1)) = UInt8.ofNat x := by
      apply UInt8.toNat.inj
      rw [UInt8.toNat_ofNat', UInt8.toNat_ofNat']
      exact Nat.mod_mod_of_dvd x (by rw [Nat.pow_succ]; exact Nat.dvd_mul_left _ _)
    rw [le, le, e1, e2, ih]

end Go.Proofs.YtooclofdljampaaDoor

set_option linter.unusedVariables false
namespace Go.Proofs.YtooclofdljampaaDoor
open Go Go.RowKit Go.ChangeShapes Go.WideShapes

theorem Tryd.nameErr : Tryd.prog.typeName? 3 137 = some "*errors.errorString" := by kernel_rfl
theorem Tryd.cellsErr : Tryd.prog.cellsOf 152 = 1 := by kernel_rfl
theorem Tryd.cellsStr : Tryd.prog.cellsOf 9 = 1 := by kernel_rfl
theorem Tryd.star : "*" ++ "errors.errorString" = "*errors.errorString" := by decide
theorem Tryd.rowErr (u : TypeId) (h : Tryd.prog.typeName? 3 u = some "*errors.errorString") : u = 137 :=
  typeName_ptr_named (nm := "errors.errorString") (by rw [Tryd.star]; kernel_rfl) (by kernel_rfl) (by decide) u (by rw [Tryd.star]; exact h)

/-- The error at a reads as this text, in a block of cells. -/
structure ErrAt (w : World) (a : Addr) (text : List UInt8) : Prop where
  cell : ∃ s : ByteArray, w.cell? a = some (.string s) ∧ s.data.toList = text
  block : ∃ c t, w.heap[a.block]? = some (.cells c t (0, 0))

set_option maxRecDepth 20000 in
theorem gl_of_laid {n : String} {g : Nat} {text : List UInt8} {l : List (String × DataW Unit)} {W : World} (h : laidMetH Tryd.prog l W)
    (hl : (l.filter fun x => x.1 == n) = [(n, .iface "*errors.errorString" (.ptr (.agg [.lit (.string text)])))]) (hp : (l.all fun x => x.2.handleName?.isNone) = true)
    (hg : Tryd.prog.globalNamed n = some g) (ht : (Tryd.prog.globals[g]?).map (·.type) = some 35) : ∃ a, Gl W g a ∧ ErrAt W a text := by
  have h1 := h.filter (fun x => x.1 == n)
  rw [hl, MakeChecks.laidMetH_plain _ _ _ (by rfl)] at h1
  obtain ⟨ps, ⟨g0, t0, cs0, f0, p0, q0, hg0, ht0, hv0, hd0, hq0, e0⟩, hnd, hrows⟩ := h1
  obtain rfl := Option.some.inj (hg.symm.trans hg0)
  obtain rfl := Option.some.inj (ht.symm.trans ht0)
  have hq0' : q0 = [] := hq0
  subst hq0' e0
  obtain ⟨l0⟩ := cs0
  have ok0 : ∀ u v, l0 = [.iface u v] → Value.okWide Tryd.prog W .any 0 u v := fun u v e => by
    subst e
    exact (hrows g 0 (by simp [MemPlace.row])).2 u v (by simpa using World.var?_cell hg0 hv0 0)
  obtain ⟨a0, s0, rfl, hc0, hs0, hz0, rfl⟩ := errorString_of_trod Tryd.underlying35 Tryd.rowErr Tryd.underlying137 Tryd.underlying152 rfl rfl Tryd.underlying9 Tryd.cellsErr Tryd.cellsStr hd0 ok0
  obtain ⟨c0, t0, hb0⟩ := (hrows a0.block a0.off (by simp [MemPlace.row])).1
  obtain ⟨c1, t1, hb1⟩ := (hrows g 0 (by simp [MemPlace.row])).1
  refine ⟨a0, ⟨t1, ?_⟩, ⟨⟨s0, hc0, hs0⟩, c0, t0, hb0⟩⟩
  simp only [World.var?, hg, Option.bind_some, hb1] at hv0
  rw [hb1]
  simpa using hv0

theorem own : ownKnob Tryd.prog.godebug = none := by kernel_rfl
theorem Tryd.gShort : Tryd.prog.globalNamed "turnstile/api.ErrShort" = some 1 := by kernel_rfl
theorem Tryd.gForm : Tryd.prog.globalNamed "turnstile/api.ErrForm" = some 2 := by kernel_rfl
theorem Tryd.gNil : Tryd.prog.globalNamed "turnstile/api.ErrNil" = some 14 := by kernel_rfl
theorem Tryd.gtShort : (Tryd.prog.globals[1]?).map (·.type) = some 35 := by kernel_rfl
theorem Tryd.gtForm : (Tryd.prog.globals[2]?).map (·.type) = some 35 := by kernel_rfl
theorem Tryd.gtNil : (Tryd.prog.globals[14]?).map (·.type) = some 35 := by kernel_rfl
end Go.Proofs.YtooclofdljampaaDoor

set_option linter.unusedVariables false
namespace Go.Proofs.YtooclofdljampaaDoor
open Go Go.RowKit

theorem Tryd.cmpErr : (Tryd.prog.info? 137).map (·.comparable) = some true := by kernel_rfl
theorem Tryd.sizeErr : (Tryd.prog.info? 152).map (·.size) = some 1 := by kernel_rfl

theorem eq_same (a : Addr) (u : World) : (binOp .eql 35 (E a) (E a)).run Tryd.prog u = .ok (.bool true) u := by
  obtain ⟨i, hi, hc⟩ := Option.map_eq_some_iff.1 Tryd.cmpErr
  obtain ⟨j, hj, hs⟩ := Option.map_eq_some_iff.1 Tryd.sizeErr
  exact run_eql_iface_ptr_same u a Tryd.underlying35 Tryd.underlying137 hi hc hj
theorem neq_same (a : Addr) (u : World) : (binOp .neq 35 (E a) (E a)).run Tryd.prog u = .ok (.bool false) u := by
  obtain ⟨i, hi, hc⟩ := Option.map_eq_some_iff.1 Tryd.cmpErr
  obtain ⟨j, hj, hs⟩ := Option.map_eq_some_iff.1 Tryd.sizeErr
  simp only [binOp]
  simp [Op.equal, Op.maxDepth, run_equalIn_iface_ptr_same u 9998 a Tryd.underlying35 Tryd.underlying137 hi hc hj]

theorem ErrAt.ne {w : World} {a b : Addr} {s t : List UInt8} (ha : ErrAt w a s) (hb : ErrAt w b t) (h : s ≠ t) : a ≠ b := by
  rintro rfl
  obtain ⟨x, hx, hx2⟩ := ha.cell
  obtain ⟨y, hy, hy2⟩ := hb.cell
  rw [hx] at hy
  simp at hy
  subst hy
  exact h (hx2.symm.trans hy2)

theorem eq_other {a b : Addr} {u : World} {s t : List UInt8} (ha : ErrAt u a s) (hb : ErrAt u b t) (h : s ≠ t) : (binOp .eql 35 (E a) (E b)).run Tryd.prog u = .ok (.bool false) u := by
  obtain ⟨i, hi, hc⟩ := Option.map_eq_some_iff.1 Tryd.cmpErr
  obtain ⟨j, hj, hs⟩ := Option.map_eq_some_iff.1 Tryd.sizeErr
  obtain ⟨c, t1, h1⟩ := ha.block
  obtain ⟨d, t2, h2⟩ := hb.block
  exact run_eql_iface_ptr_other u Tryd.underlying35 Tryd.underlying137 hi hc hj (by rw [hs]; decide) (ha.ne hb h) h1 h2
theorem neq_other {a b : Addr} {u : World} {s t : List UInt8} (ha : ErrAt u a s) (hb : ErrAt u b t) (h : s ≠ t) : (binOp .neq 35 (E a) (E b)).run Tryd.prog u = .ok (.bool true) u := by
  obtain ⟨i, hi, hc⟩ := Option.map_eq_some_iff.1 Tryd.cmpErr
  obtain ⟨j, hj, hs⟩ := Option.map_eq_some_iff.1 Tryd.sizeErr
  obtain ⟨c, t1, h1⟩ := ha.block
  obtain ⟨d, t2, h2⟩ := hb.block
  simp only [binOp]
  simp [Op.equal, Op.maxDepth, run_equalIn_iface_ptr_other u 9998 Tryd.underlying35 Tryd.underlying137 hi hc hj (by rw [hs]; decide) (ha.ne hb h) h1 h2]

theorem ErrAt.lt {w : World} {a : Addr} {s : List UInt8} (h : ErrAt w a s) : a.block < w.heap.size := by
  obtain ⟨c, t, h⟩ := h.block
  exact (Array.getElem?_eq_some_iff.1 h).1
theorem ErrAt.up {w w' : World} {a : Addr} {s : List UInt8} (h : ErrAt w a s) (hu : Up w w') : ErrAt w' a s := by
  have hl := h.lt
  obtain ⟨⟨x, hx, hx2⟩, c, t, hb⟩ := h
  exact ⟨⟨x, (hu.cell hl).trans hx, hx2⟩, c, t, (hu.block _ hl).trans hb⟩
theorem ErrAt.but {w w' : World} {a : Addr} {s : List UInt8} {r : Nat} (h : ErrAt w a s) (hr : a.block ≠ r) (hu : But r w w') : ErrAt w' a s := by
  have hl := h.lt
  obtain ⟨⟨x, hx, hx2⟩, c, t, hb⟩ := h
  exact ⟨⟨x, hu.cell hx (by simpa using hr), hx2⟩, c, t, (hu.block _ hl (by simpa using hr)).trans hb⟩
theorem ErrAt.apart {base : Nat} {w : World} {a : Addr} {s : List UInt8} {r : Nat} {bs : List UInt8} {fv : Value} (h : ErrAt w a s) (hr : Rdr base w r bs fv) (hf : isF fv) : a.block ≠ r := by
  rintro rfl
  obtain ⟨x, hx, _⟩ := h.cell
  obtain ⟨v, hv, hs⟩ := hr
  obtain ⟨ao, cap, rfl, _⟩ := hs
  simp only [World.cell?, hv] at hx
  split at hx
  · cases hx
  · match a.off, hx with
    | 0, hx => simp at hx
    | 1, hx =>
      simp at hx
      rcases hf with rfl | ⟨b, rfl⟩
      · cases hx
      · cases hx
    | n + 2, hx => simp at hx

/-- The package variables of the set S hold their errors at the addresses that ad tells. -/
def ErrSet (S : List Nat) (txt : Nat → List UInt8) (w : World) (ad : Nat → Addr) : Prop := ∀ g, g ∈ S → Gl w g (ad g) ∧ ErrAt w (ad g) (txt g)
theorem ErrSet.up {S : List Nat} {txt : Nat → List UInt8} {w w' : World} {ad : Nat → Addr} (h : ErrSet S txt w ad) (hu : Up w w') : ErrSet S txt w' ad := fun g hg => ⟨(h g hg).1.up hu, (h g hg).2.up hu⟩
theorem ErrSet.rdr {base : Nat} {S : List Nat} {txt : Nat → List UInt8} {w w' : World} {ad : Nat → Addr} {r : Nat} {bs : List UInt8} {fv : Value} (h : ErrSet S txt w ad) (hr : Rdr base w r bs fv) (hf : isF fv) (hb : But r w w') : ErrSet S txt w' ad :=
  fun g hg => ⟨(h g hg).1.but (gl_ne (h g hg).1 hr) hb, (h g hg).2.but ((h g hg).2.apart hr hf) hb⟩

theorem ErrSet.errs {S : List Nat} {txt : Nat → List UInt8} {w : World} {ad : Nat → Addr} (h : ErrSet S txt w ad) (h1 : 1 ∈ S) (h2 : 2 ∈ S) (h3 : 14 ∈ S) :
    Errs w (ad 1) (ad 2) (ad 14) := ⟨(h _ h1).1, (h _ h2).1, (h _ h3).1⟩

/-! What Number takes is what PutNumber puts, and nothing else. -/
theorem numR_vnF (aS aF : Addr) (rest : List UInt8) : ∀ f i acc x, i + f = 10 → x < 2 ^ (64 - 7 * i) → (0 < i → 0 < x) → numR aS aF i acc (vnF f x ++ rest) = (acc + 2 ^ (7 * i) * x, i + (vnF f x).length, .nilIface) := by
  intro f
  induction f with
  | zero =>
    intro i acc x hi hx hp
    obtain rfl : i = 10 := by omega
    have := hp (by omega)
    simp at hx
    omega
  | succ f ih =>
    intro i acc x hi hx hp
    unfold vnF
    by_cases h : x < 128
    · rw [if_pos h]
      have ht : (UInt8.ofNat x).toNat = x := by rw [UInt8.toNat_ofNat']; omega
      have hb : ¬ ((0 < i ∧ x = 0) ∨ (i = 9 ∧ 1 < x)) := by
        rintro (⟨a, b⟩ | ⟨rfl, b⟩)
        · have := hp a; omega
        · simp at hx; omega
      simp only [List.cons_append, List.nil_append, numR, ht, if_neg hb, if_pos h, List.length_singleton]
      rw [Nat.mod_eq_of_lt h]
    · rw [if_neg h]
      have hm : x % 128 < 128 := Nat.mod_lt _ (by omega)
      have ht : (UInt8.ofNat (x % 128 + 128)).toNat = x % 128 + 128 := by rw [UInt8.toNat_ofNat']; omega
      have hi9 : i ≠ 9 := by rintro rfl; simp at hx; omega
      have hb : ¬ ((0 < i ∧ x % 128 + 128 = 0) ∨ (i = 9 ∧ 1 < x % 128 + 128)) := by omega
      have e : 2 ^ (7 * (i + 1)) = 2 ^ (7 * i) * 128 := by rw [show 7 * (i + 1) = 7 * i + 7 by omega, Nat.pow_add]
      have e2 : 2 ^ (64 - 7 * i) = 2 ^ (64 - 7 * (i + 1)) * 128 := by rw [show 64 - 7 * i = (64 - 7 * (i + 1)) + 7 by omega, Nat.pow_add]
      have hx' : x / 128 < 2 ^ (64 - 7 * (i + 1)) := by
        rw [e2] at hx
        exact Nat.div_lt_of_lt_mul (by rwa [Nat.mul_comm] at hx)
      simp only [List.cons_append, numR, ht, if_neg hb, if_neg (show ¬ x % 128 + 128 < 128 by omega)]
      rw [ih (i + 1) _ (x / 128) (by omega) hx' (fun _ => by omega)]
      simp only [List.length_cons]
      congr 1
      · rw [e]
        have e3 : (x % 128 + 128) % 128 = x % 128 := by omega
        have e4 : x = x % 128 + 128 * (x / 128) := by omega
        rw [e3, Nat.add_assoc]
        congr 1
        rw [Nat.mul_assoc, ← Nat.mul_add, ← e4]
      · congr 1; omega

/-- Bytes that begin as PutNumber puts x: Number answers x. -/
theorem numR_vn (aS aF : Addr) (x : Nat) (rest : List UInt8) (hx : x < 2 ^ 64) : numR aS aF 0 0 (vn x ++ rest) = (x, (vn x).length, .nilIface) := by
  have h := numR_vnF aS aF rest 10 0 0 x (by omega) (by simpa using hx) (by omega)
  simpa [vn] using h

theorem numR_inv (aS aF : Addr) (bs : List UInt8) : ∀ i acc X n, i ≤ 9 → numR aS aF i acc bs = (X, n, .nilIface) → ∃ x k, X = acc + 2 ^ (7 * i) * x ∧ n = i + k ∧ bs.take k = vnF (10 - i) x ∧ (0 < i → 0 < x) := by
  induction bs with
  | nil => intro i acc X n _ h; simp [numR] at h
  | cons c r ih =>
    intro i acc X n hi h
    unfold numR at h
    by_cases hb : (0 < i ∧ c.toNat = 0) ∨ (i = 9 ∧ 1 < c.toNat)
    · rw [if_pos hb] at h; simp at h
    · rw [if_neg hb] at h
      obtain ⟨f, hf⟩ : ∃ f, 10 - i = f + 1 := ⟨9 - i, by omega⟩
      by_cases hs : c.toNat < 128
      · rw [if_pos hs] at h
        simp only [Prod.mk.injEq] at h
        obtain ⟨rfl, rfl, _⟩ := h
        refine ⟨c.toNat, 1, by rw [Nat.mod_eq_of_lt hs], rfl, ?_, fun h0 => by omega⟩
        rw [hf]
        simp [vnF, hs]
      · rw [if_neg hs] at h
        obtain ⟨x, k, h1, h2, h3, h4⟩ := ih (i + 1) _ X n (by omega) h
        have hx := h4 (by omega)
        have e : 2 ^ (7 * (i + 1)) = 2 ^ (7 * i) * 128 := by rw [show 7 * (i + 1) = 7 * i + 7 by omega, Nat.pow_add]
        have hc := c.toNat_lt
        refine ⟨c.toNat % 128 + 128 * x, k + 1, ?_, by omega, ?_, fun _ => by omega⟩
        · rw [h1, e, Nat.add_assoc]
          congr 1
          rw [Nat.mul_assoc, ← Nat.mul_add]
        · rw [List.take_succ_cons, h3, hf, vnF, if_neg (by omega), show 10 - (i + 1) = f by omega]
          congr 1
          · apply UInt8.toNat.inj
            rw [UInt8.toNat_ofNat']; omega
          · congr 1; omega

theorem numR_take (aS aF : Addr) (bs : List UInt8) (x n : Nat) (h : numR aS aF 0 0 bs = (x, n, .nilIface)) : bs.take n = vn x := by
  obtain ⟨y, k, h1, h2, h3, _⟩ := numR_inv aS aF bs 0 0 x n (by omega) h
  obtain rfl : x = y := by simpa using h1
  obtain rfl : n = k := by omega
  exact h3
end Go.Proofs.YtooclofdljampaaDoor

set_option linter.unusedVariables false
namespace Go.Proofs.YtooclofdljampaaDoor
open Go Go.RowKit Go.ChangeShapes Go.WideShapes

theorem Tryd.cellsU8 : Tryd.prog.cellsOf 5 = 1 := by kernel_rfl
theorem Tryd.bytesU8 : Tryd.prog.bytesOf 5 = 1 := by kernel_rfl

theorem addr_plain {w : World} {a : Addr} {v : Value} (h : w.cell? a = some v) : a = ⟨a.block, a.off, none⟩ := by
  obtain ⟨b, o, s⟩ := a
  unfold World.cell? at h
  cases s with
  | none => rfl
  | some s =>
    split at h
    · simp at h
    · cases h

theorem open_bytes {H : Type} {enc : TypeId × Value → H} {W : World} {v : Value} {d : DataW H} {p : List MemPlace} (hv : ∃ a n c, v = .slice a n c)
    (h : DataW.Trod enc Tryd.prog W 0 (fun _ => true) true 30 v d p) :
    ∃ bs, Sl 0 W v bs ∧ ((d = .nil ∧ bs = []) ∨ ∃ elems spare, d = .slice elems spare ∧ elems.length = bs.length) := by
  obtain ⟨a0, n0, c0, rfl⟩ := hv
  obtain ⟨fuel, hf⟩ := h
  rcases open_ints Tryd.underlying30 Tryd.underlying5 Tryd.cellsU8 hf with ⟨hcs, hx⟩ | ⟨a, len', cap', zs, hcs, _, hl, hm, hz, hx, hcell, hwz⟩
  · simp [Value.cells] at hcs
    obtain ⟨rfl, rfl, rfl⟩ := hcs
    simp only [Prod.mk.injEq] at hx
    exact ⟨[], Sl.nil 0 W, .inl ⟨hx.1, rfl⟩⟩
  · simp [Value.cells] at hcs
    obtain ⟨rfl, rfl, rfl⟩ := hcs
    simp only [Prod.mk.injEq] at hx
    simp only [if_true] at hz
    have hlen : ((zs.take n0).map fun z => UInt8.ofNat z.toNat).length = n0 := by simp; omega
    refine ⟨(zs.take n0).map fun z => UInt8.ofNat z.toNat, ?_, .inr ⟨_, _, hx.1, by simp [lits]⟩⟩
    refine ⟨some a, c0, by rw [hlen], by rw [hlen]; exact hl, (by intro e; cases e), fun hne => ?_⟩
    have hn0 : 0 < n0 := by rw [← hlen]; exact List.length_pos_iff.2 hne
    have hc0 := hcell 0 (by omega)
    have ha : a = ⟨a.block, a.off, none⟩ := by
      have : a.add 0 = a := by simp [Addr.add]
      rw [this] at hc0
      exact addr_plain hc0
    refine ⟨a.block, a.off, congrArg some ha, Nat.zero_le _, ?_⟩
    intro i hi
    rw [hlen] at hi
    have hc := hcell i (by omega)
    rw [ha, Addr.add_lit] at hc
    rw [hc]
    have hzi : i < zs.length := by omega
    have hb := bounds_u8 (hwz (zs[i]) (List.getElem_mem hzi))
    have e1 : zs.getD i 0 = zs[i] := by simp [List.getD, hzi]
    simp only [B, List.getElem_map, List.getElem_take, e1]
    congr 2
    rw [UInt8.toNat_ofNat']
    omega

/-- The bound that the form itself lays on a slice of bytes. -/
theorem bytes_bound {H : Type} {ts : List TypeId} {ds : List (DataW H)} {j : Nat} {d : DataW H} {bs : List UInt8} (hsz : (DataW.weightsEach Tryd.prog ts ds).all (· ≤ reachBytes) = true) (ht : ts[j]? = some 30) (hd : ds[j]? = some d)
    (h : (d = .nil ∧ bs = []) ∨ ∃ elems spare, d = .slice elems spare ∧ elems.length = bs.length) : bs.length ≤ 140737488351232 := by
  rcases h with ⟨_, rfl⟩ | ⟨elems, spare, rfl, he⟩
  · simp
  · have := sized_slice hsz (j := j) (t := 30) (e := 5) ht hd Tryd.underlying30
    rw [Tryd.bytesU8] at this
    simp only [reachBytes] at this
    omega

theorem Tryd.readable : Tryd.prog.readableRec 30 = true := by kernel_rfl
theorem Tryd.laidOut : laidOutB Tryd.prog = true := by kernel_rfl
end Go.Proofs.YtooclofdljampaaDoor

set_option linter.unusedVariables false
namespace Go.Proofs.YtooclofdljampaaDoor
open Go Go.RowKit Go.ChangeShapes Go.WideShapes

/-- All errors of the package api, by their variables. -/
def allErrs : List Nat := [
  0,
  1,
  2,
  4,
  3,
  5,
  6,
  7,
  8,
  9,
  10,
  11,
  12,
  13,
  14]
/-- Their texts are unlike. -/
def Unlike (txt : Nat → List UInt8) : Prop := ∀ g, g ∈ allErrs → ∀ k, k ∈ allErrs → g ≠ k → txt g ≠ txt k

theorem ErrSet.other {txt : Nat → List UInt8} {w : World} {ad : Nat → Addr} (h : ErrSet allErrs txt w ad) (hu : Unlike txt) (g k : Nat) (hg : g ∈ allErrs) (hk : k ∈ allErrs) (hne : g ≠ k) :
    (binOp .eql 35 (E (ad g)) (E (ad k))).run Tryd.prog w = .ok (.bool false) w := eq_other (h g hg).2 (h k hk).2 (hu g hg k hk hne)

theorem Of_none (w : World) : Calls Tryd.prog 38 #[.nilIface] w fun e w' => e = .returned (.int .i64 0) ∧ w' = w := by
  go_enter Tryd.func38, Tryd.ntmps38
  go_wp2
  go_ret
  exact ⟨rfl, rfl⟩

set_option maxHeartbeats 800000 in
theorem Of_Short (txt : Nat → List UInt8) (w : World) (ad : Nat → Addr) (h : ErrSet allErrs txt w ad) (hu : Unlike txt) :
    Calls Tryd.prog 38 #[E (ad 1)] w fun e w' => e = .returned (.int .i64 2) ∧ w' = w := by
  have cArg := (h 0 (by decide)).1.cell
  have cShort := (h 1 (by decide)).1.cell
  have nArg := h.other hu 1 0 (by decide) (by decide) (by decide)
  have sShort := eq_same (ad 1)
  clear h hu
  generalize ad 0 = aArg at *
  generalize ad 1 = aShort at *
  go_enter Tryd.func38, Tryd.ntmps38
  go_wp2
  go_ret
  exact ⟨rfl, rfl⟩

set_option maxHeartbeats 800000 in
theorem Of_Form (txt : Nat → List UInt8) (w : World) (ad : Nat → Addr) (h : ErrSet allErrs txt w ad) (hu : Unlike txt) :
    Calls Tryd.prog 38 #[E (ad 2)] w fun e w' => e = .returned (.int .i64 3) ∧ w' = w := by
  have cArg := (h 0 (by decide)).1.cell
  have cShort := (h 1 (by decide)).1.cell
  have cForm := (h 2 (by decide)).1.cell
  have nArg := h.other hu 2 0 (by decide) (by decide) (by decide)
  have nShort := h.other hu 2 1 (by decide) (by decide) (by decide)
  have sForm := eq_same (ad 2)
  clear h hu
  generalize ad 0 = aArg at *
  generalize ad 1 = aShort at *
  generalize ad 2 = aForm at *
  go_enter Tryd.func38, Tryd.ntmps38
  go_wp2
  go_ret
  exact ⟨rfl, rfl⟩

set_option maxHeartbeats 800000 in
theorem Of_Long (txt : Nat → List UInt8) (w : World) (ad : Nat → Addr) (h : ErrSet allErrs txt w ad) (hu : Unlike txt) :
    Calls Tryd.prog 38 #[E (ad 4)] w fun e w' => e = .returned (.int .i64 4) ∧ w' = w := by
  have cArg := (h 0 (by decide)).1.cell
  have cShort := (h 1 (by decide)).1.cell
  have cForm := (h 2 (by decide)).1.cell
  have cLong := (h 4 (by decide)).1.cell
  have nArg := h.other hu 4 0 (by decide) (by decide) (by decide)
  have nShort := h.other hu 4 1 (by decide) (by decide) (by decide)
  have nForm := h.other hu 4 2 (by decide) (by decide) (by decide)
  have sLong := eq_same (ad 4)
  clear h hu
  generalize ad 0 = aArg at *
  generalize ad 1 = aShort at *
  generalize ad 2 = aForm at *
  generalize ad 4 = aLong at *
  go_enter Tryd.func38, Tryd.ntmps38
  go_wp2
  go_ret
  exact ⟨rfl, rfl⟩

set_option maxHeartbeats 800000 in
theorem Of_Nil (txt : Nat → List UInt8) (w : World) (ad : Nat → Addr) (h : ErrSet allErrs txt w ad) (hu : Unlike txt) :
    Calls Tryd.prog 38 #[E (ad 14)] w fun e w' => e = .returned (.int .i64 15) ∧ w' = w := by
  have cArg := (h 0 (by decide)).1.cell
  have cShort := (h 1 (by decide)).1.cell
  have cForm := (h 2 (by decide)).1.cell
  have cLong := (h 4 (by decide)).1.cell
  have cSum := (h 3 (by decide)).1.cell
  have cIo := (h 5 (by decide)).1.cell
  have cDown := (h 6 (by decide)).1.cell
  have cGone := (h 7 (by decide)).1.cell
  have cThere := (h 8 (by decide)).1.cell
  have cImage := (h 9 (by decide)).1.cell
  have cGap := (h 10 (by decide)).1.cell
  have cLog := (h 11 (by decide)).1.cell
  have cSick := (h 12 (by decide)).1.cell
  have cConfig := (h 13 (by decide)).1.cell
  have cNil := (h 14 (by decide)).1.cell
  have nArg := h.other hu 14 0 (by decide) (by decide) (by decide)
  have nShort := h.other hu 14 1 (by decide) (by decide) (by decide)
  have nForm := h.other hu 14 2 (by decide) (by decide) (by decide)
  have nLong := h.other hu 14 4 (by decide) (by decide) (by decide)
  have nSum := h.other hu 14 3 (by decide) (by decide) (by decide)
  have nIo := h.other hu 14 5 (by decide) (by decide) (by decide)
  have nDown := h.other hu 14 6 (by decide) (by decide) (by decide)
  have nGone := h.other hu 14 7 (by decide) (by decide) (by decide)
  have nThere := h.other hu 14 8 (by decide) (by decide) (by decide)
  have nImage := h.other hu 14 9 (by decide) (by decide) (by decide)
  have nGap := h.other hu 14 10 (by decide) (by decide) (by decide)
  have nLog := h.other hu 14 11 (by decide) (by decide) (by decide)
  have nSick := h.other hu 14 12 (by decide) (by decide) (by decide)
  have nConfig := h.other hu 14 13 (by decide) (by decide) (by decide)
  have sNil := eq_same (ad 14)
  clear h hu
  generalize ad 0 = aArg at *
  generalize ad 1 = aShort at *
  generalize ad 2 = aForm at *
  generalize ad 4 = aLong at *
  generalize ad 3 = aSum at *
  generalize ad 5 = aIo at *
  generalize ad 6 = aDown at *
  generalize ad 7 = aGone at *
  generalize ad 8 = aThere at *
  generalize ad 9 = aImage at *
  generalize ad 10 = aGap at *
  generalize ad 11 = aLog at *
  generalize ad 12 = aSick at *
  generalize ad 13 = aConfig at *
  generalize ad 14 = aNil at *
  go_enter Tryd.func38, Tryd.ntmps38
  go_wp2
  go_ret
  exact ⟨rfl, rfl⟩

/-- turnstilesame.Is where Of answers k. -/
theorem Is_of (v : Value) (k d : Nat) (w : World) (h : Calls Tryd.prog 38 #[v] w fun e w' => e = .returned (.int .i64 (k : Int)) ∧ w' = w) :
    Calls Tryd.prog 22 #[v, .int .i64 (d : Int)] w fun e w' => e = .returned (.bool (decide (k = d))) ∧ w' = w := by
  have he : Hid (((k : Int) == (d : Int)) = decide (k = d)) := by
    show _ = _
    by_cases h : k = d
    · simp [h]
    · simp [h]; omega
  go_enter Tryd.func22, Tryd.ntmps22
  go_wp2_with fail
  refine h.mono ?_
  rintro e w1 ⟨rfl, rfl⟩
  clear h
  go_wp2
  go_ret
  exact ⟨congrArg (fun b => Ending.returned (.bool b)) he.out, rfl⟩
def txtOf : DataW Unit → List UInt8
  | .iface _ (.ptr (.agg [.lit (.string t)])) => t
  | _ => []
/-- The text of the error in the variable g. -/
def errTxt (g : Nat) : List UInt8 :=
  if g = 0 then txtOf Rows.laid_turnstile_api_ErrArg else
  if g = 1 then txtOf Rows.laid_turnstile_api_ErrShort else
  if g = 2 then txtOf Rows.laid_turnstile_api_ErrForm else
  if g = 4 then txtOf Rows.laid_turnstile_api_ErrLong else
  if g = 3 then txtOf Rows.laid_turnstile_api_ErrSum else
  if g = 5 then txtOf Rows.laid_turnstile_api_ErrIo else
  if g = 6 then txtOf Rows.laid_turnstile_api_ErrDown else
  if g = 7 then txtOf Rows.laid_turnstile_api_ErrGone else
  if g = 8 then txtOf Rows.laid_turnstile_api_ErrThere else
  if g = 9 then txtOf Rows.laid_turnstile_api_ErrImage else
  if g = 10 then txtOf Rows.laid_turnstile_api_ErrGap else
  if g = 11 then txtOf Rows.laid_turnstile_api_ErrLog else
  if g = 12 then txtOf Rows.laid_turnstile_api_ErrSick else
  if g = 13 then txtOf Rows.laid_turnstile_api_ErrConfig else
  txtOf Rows.laid_turnstile_api_ErrNil
theorem errTxt_unlike : Unlike errTxt := by
  unfold Unlike
  decide +kernel
theorem Tryd.gArg : Tryd.prog.globalNamed "turnstile/api.ErrArg" = some 0 := by kernel_rfl
theorem Tryd.gtArg : (Tryd.prog.globals[0]?).map (·.type) = some 35 := by kernel_rfl
theorem Tryd.gLong : Tryd.prog.globalNamed "turnstile/api.ErrLong" = some 4 := by kernel_rfl
theorem Tryd.gtLong : (Tryd.prog.globals[4]?).map (·.type) = some 35 := by kernel_rfl
theorem Tryd.gSum : Tryd.prog.globalNamed "turnstile/api.ErrSum" = some 3 := by kernel_rfl
theorem Tryd.gtSum : (Tryd.prog.globals[3]?).map (·.type) = some 35 := by kernel_rfl
theorem Tryd.gIo : Tryd.prog.globalNamed "turnstile/api.ErrIo" = some 5 := by kernel_rfl
theorem Tryd.gtIo : (Tryd.prog.globals[5]?).map (·.type) = some 35 := by kernel_rfl
theorem Tryd.gDown : Tryd.prog.globalNamed "turnstile/api.ErrDown" = some 6 := by kernel_rfl
theorem Tryd.gtDown : (Tryd.prog.globals[6]?).map (·.type) = some 35 := by kernel_rfl
theorem Tryd.gGone : Tryd.prog.globalNamed "turnstile/api.ErrGone" = some 7 := by kernel_rfl
theorem Tryd.gtGone : (Tryd.prog.globals[7]?).map (·.type) = some 35 := by kernel_rfl
theorem Tryd.gThere : Tryd.prog.globalNamed "turnstile/api.ErrThere" = some 8 := by kernel_rfl
theorem Tryd.gtThere : (Tryd.prog.globals[8]?).map (·.type) = some 35 := by kernel_rfl
theorem Tryd.gImage : Tryd.prog.globalNamed "turnstile/api.ErrImage" = some 9 := by kernel_rfl
theorem Tryd.gtImage : (Tryd.prog.globals[9]?).map (·.type) = some 35 := by kernel_rfl
theorem Tryd.gGap : Tryd.prog.globalNamed "turnstile/api.ErrGap" = some 10 := by kernel_rfl
theorem Tryd.gtGap : (Tryd.prog.globals[10]?).map (·.type) = some 35 := by kernel_rfl
theorem Tryd.gLog : Tryd.prog.globalNamed "turnstile/api.ErrLog" = some 11 := by kernel_rfl
theorem Tryd.gtLog : (Tryd.prog.globals[11]?).map (·.type) = some 35 := by kernel_rfl
theorem Tryd.gSick : Tryd.prog.globalNamed "turnstile/api.ErrSick" = some 12 := by kernel_rfl
theorem Tryd.gtSick : (Tryd.prog.globals[12]?).map (·.type) = some 35 := by kernel_rfl
theorem Tryd.gConfig : Tryd.prog.globalNamed "turnstile/api.ErrConfig" = some 13 := by kernel_rfl
theorem Tryd.gtConfig : (Tryd.prog.globals[13]?).map (·.type) = some 35 := by kernel_rfl

theorem errs_all {l : List (String × DataW Unit)} {W : World} (h : laidMetH Tryd.prog l W) (hp : (l.all fun x => x.2.handleName?.isNone) = true)
    (hArg : (l.filter fun x => x.1 == "turnstile/api.ErrArg") = [("turnstile/api.ErrArg", .iface "*errors.errorString" (.ptr (.agg [.lit (.string (errTxt 0))])))])
    (hShort : (l.filter fun x => x.1 == "turnstile/api.ErrShort") = [("turnstile/api.ErrShort", .iface "*errors.errorString" (.ptr (.agg [.lit (.string (errTxt 1))])))])
    (hForm : (l.filter fun x => x.1 == "turnstile/api.ErrForm") = [("turnstile/api.ErrForm", .iface "*errors.errorString" (.ptr (.agg [.lit (.string (errTxt 2))])))])
    (hLong : (l.filter fun x => x.1 == "turnstile/api.ErrLong") = [("turnstile/api.ErrLong", .iface "*errors.errorString" (.ptr (.agg [.lit (.string (errTxt 4))])))])
    (hSum : (l.filter fun x => x.1 == "turnstile/api.ErrSum") = [("turnstile/api.ErrSum", .iface "*errors.errorString" (.ptr (.agg [.lit (.string (errTxt 3))])))])
    (hIo : (l.filter fun x => x.1 == "turnstile/api.ErrIo") = [("turnstile/api.ErrIo", .iface "*errors.errorString" (.ptr (.agg [.lit (.string (errTxt 5))])))])
    (hDown : (l.filter fun x => x.1 == "turnstile/api.ErrDown") = [("turnstile/api.ErrDown", .iface "*errors.errorString" (.ptr (.agg [.lit (.string (errTxt 6))])))])
    (hGone : (l.filter fun x => x.1 == "turnstile/api.ErrGone") = [("turnstile/api.ErrGone", .iface "*errors.errorString" (.ptr (.agg [.lit (.string (errTxt 7))])))])
    (hThere : (l.filter fun x => x.1 == "turnstile/api.ErrThere") = [("turnstile/api.ErrThere", .iface "*errors.errorString" (.ptr (.agg [.lit (.string (errTxt 8))])))])
    (hImage : (l.filter fun x => x.1 == "turnstile/api.ErrImage") = [("turnstile/api.ErrImage", .iface "*errors.errorString" (.ptr (.agg [.lit (.string (errTxt 9))])))])
    (hGap : (l.filter fun x => x.1 == "turnstile/api.ErrGap") = [("turnstile/api.ErrGap", .iface "*errors.errorString" (.ptr (.agg [.lit (.string (errTxt 10))])))])
    (hLog : (l.filter fun x => x.1 == "turnstile/api.ErrLog") = [("turnstile/api.ErrLog", .iface "*errors.errorString" (.ptr (.agg [.lit (.string (errTxt 11))])))])
    (hSick : (l.filter fun x => x.1 == "turnstile/api.ErrSick") = [("turnstile/api.ErrSick", .iface "*errors.errorString" (.ptr (.agg [.lit (.string (errTxt 12))])))])
    (hConfig : (l.filter fun x => x.1 == "turnstile/api.ErrConfig") = [("turnstile/api.ErrConfig", .iface "*errors.errorString" (.ptr (.agg [.lit (.string (errTxt 13))])))])
    (hNil : (l.filter fun x => x.1 == "turnstile/api.ErrNil") = [("turnstile/api.ErrNil", .iface "*errors.errorString" (.ptr (.agg [.lit (.string (errTxt 14))])))])
    : ∃ ad, ErrSet allErrs errTxt W ad := by
  obtain ⟨aArg, kArg⟩ := gl_of_laid h hArg hp Tryd.gArg Tryd.gtArg
  obtain ⟨aShort, kShort⟩ := gl_of_laid h hShort hp Tryd.gShort Tryd.gtShort
  obtain ⟨aForm, kForm⟩ := gl_of_laid h hForm hp Tryd.gForm Tryd.gtForm
  obtain ⟨aLong, kLong⟩ := gl_of_laid h hLong hp Tryd.gLong Tryd.gtLong
  obtain ⟨aSum, kSum⟩ := gl_of_laid h hSum hp Tryd.gSum Tryd.gtSum
  obtain ⟨aIo, kIo⟩ := gl_of_laid h hIo hp Tryd.gIo Tryd.gtIo
  obtain ⟨aDown, kDown⟩ := gl_of_laid h hDown hp Tryd.gDown Tryd.gtDown
  obtain ⟨aGone, kGone⟩ := gl_of_laid h hGone hp Tryd.gGone Tryd.gtGone
  obtain ⟨aThere, kThere⟩ := gl_of_laid h hThere hp Tryd.gThere Tryd.gtThere
  obtain ⟨aImage, kImage⟩ := gl_of_laid h hImage hp Tryd.gImage Tryd.gtImage
  obtain ⟨aGap, kGap⟩ := gl_of_laid h hGap hp Tryd.gGap Tryd.gtGap
  obtain ⟨aLog, kLog⟩ := gl_of_laid h hLog hp Tryd.gLog Tryd.gtLog
  obtain ⟨aSick, kSick⟩ := gl_of_laid h hSick hp Tryd.gSick Tryd.gtSick
  obtain ⟨aConfig, kConfig⟩ := gl_of_laid h hConfig hp Tryd.gConfig Tryd.gtConfig
  obtain ⟨aNil, kNil⟩ := gl_of_laid h hNil hp Tryd.gNil Tryd.gtNil
  refine ⟨fun g =>
    if g = 0 then aArg else
    if g = 1 then aShort else
    if g = 2 then aForm else
    if g = 4 then aLong else
    if g = 3 then aSum else
    if g = 5 then aIo else
    if g = 6 then aDown else
    if g = 7 then aGone else
    if g = 8 then aThere else
    if g = 9 then aImage else
    if g = 10 then aGap else
    if g = 11 then aLog else
    if g = 12 then aSick else
    if g = 13 then aConfig else
    aNil, fun g hg => ?_⟩
  simp only [allErrs, List.mem_cons, List.not_mem_nil, or_false] at hg
  rcases hg with rfl | rfl | rfl | rfl | rfl | rfl | rfl | rfl | rfl | rfl | rfl | rfl | rfl | rfl | rfl
  · exact kArg
  · exact kShort
  · exact kForm
  · exact kLong
  · exact kSum
  · exact kIo
  · exact kDown
  · exact kGone
  · exact kThere
  · exact kImage
  · exact kGap
  · exact kLog
  · exact kSick
  · exact kConfig
  · exact kNil
end Go.Proofs.YtooclofdljampaaDoor
