/- Errors against each other: the same pointer, two pointers to errors of other texts. -/
import Derived.Test.YtooclofdljampaaDoorLaid
import Derived.LaidEql
set_option linter.unusedVariables false
namespace Go.Proofs.YtooclofdljampaaDoor
open Go Go.RowKit

theorem Tryd.cmpErr : (Tryd.prog.info? 137).map (·.comparable) = some true := by kernel_rfl
theorem Tryd.sizeErr : (Tryd.prog.info? 152).map (·.size) = some 1 := by kernel_rfl

theorem eq_same (a : Addr) (u : World) : (binOp .eql 35 (E a) (E a)).run Tryd.prog u = .ok (.bool true) u := by
  obtain ⟨i, hi, hc⟩ := Option.map_eq_some_iff.1 Tryd.cmpErr
  obtain ⟨j, hj, hs⟩ := Option.map_eq_some_iff.1 Tryd.sizeErr
  exact run_eql_iface_ptr_same u a Tryd.underlying35 Tryd.underlying137 hi hc hj
theorem neq_same (a : Addr) (u : World) : (binOp .neq 35 (E a) (E a)).run Tryd.prog u = .ok (.bool false) u := by
  obtain ⟨i, hi, hc⟩ := Option.map_eq_some_iff.1 Tryd.cmpErr
  obtain ⟨j, hj, hs⟩ := Option.map_eq_some_iff.1 Tryd.sizeErr
  simp only [binOp]
  simp [Op.equal, Op.maxDepth, run_equalIn_iface_ptr_same u 9998 a Tryd.underlying35 Tryd.underlying137 hi hc hj]

theorem ErrAt.ne {w : World} {a b : Addr} {s t : List UInt8} (ha : ErrAt w a s) (hb : ErrAt w b t) (h : s ≠ t) : a ≠ b := by
  rintro rfl
  obtain ⟨x, hx, hx2⟩ := ha.cell
  obtain ⟨y, hy, hy2⟩ := hb.cell
  rw [hx] at hy
  simp at hy
  subst hy
  exact h (hx2.symm.trans hy2)

theorem eq_other {a b : Addr} {u : World} {s t : List UInt8} (ha : ErrAt u a s) (hb : ErrAt u b t) (h : s ≠ t) : (binOp .eql 35 (E a) (E b)).run Tryd.prog u = .ok (.bool false) u := by
  obtain ⟨i, hi, hc⟩ := Option.map_eq_some_iff.1 Tryd.cmpErr
  obtain ⟨j, hj, hs⟩ := Option.map_eq_some_iff.1 Tryd.sizeErr
  obtain ⟨c, t1, h1⟩ := ha.block
  obtain ⟨d, t2, h2⟩ := hb.block
  exact run_eql_iface_ptr_other u Tryd.underlying35 Tryd.underlying137 hi hc hj (by rw [hs]; decide) (ha.ne hb h) h1 h2
theorem neq_other {a b : Addr} {u : World} {s t : List UInt8} (ha : ErrAt u a s) (hb : ErrAt u b t) (h : s ≠ t) : (binOp .neq 35 (E a) (E b)).run Tryd.prog u = .ok (.bool true) u := by
  obtain ⟨i, hi, hc⟩ := Option.map_eq_some_iff.1 Tryd.cmpErr
  obtain ⟨j, hj, hs⟩ := Option.map_eq_some_iff.1 Tryd.sizeErr
  obtain ⟨c, t1, h1⟩ := ha.block
  obtain ⟨d, t2, h2⟩ := hb.block
  simp only [binOp]
  simp [Op.equal, Op.maxDepth, run_equalIn_iface_ptr_other u 9998 Tryd.underlying35 Tryd.underlying137 hi hc hj (by rw [hs]; decide) (ha.ne hb h) h1 h2]

theorem ErrAt.lt {w : World} {a : Addr} {s : List UInt8} (h : ErrAt w a s) : a.block < w.heap.size := by
  obtain ⟨c, t, h⟩ := h.block
  exact (Array.getElem?_eq_some_iff.1 h).1
theorem ErrAt.up {w w' : World} {a : Addr} {s : List UInt8} (h : ErrAt w a s) (hu : Up w w') : ErrAt w' a s := by
  have hl := h.lt
  obtain ⟨⟨x, hx, hx2⟩, c, t, hb⟩ := h
  exact ⟨⟨x, (hu.cell hl).trans hx, hx2⟩, c, t, (hu.block _ hl).trans hb⟩
theorem ErrAt.but {w w' : World} {a : Addr} {s : List UInt8} {r : Nat} (h : ErrAt w a s) (hr : a.block ≠ r) (hu : But r w w') : ErrAt w' a s := by
  have hl := h.lt
  obtain ⟨⟨x, hx, hx2⟩, c, t, hb⟩ := h
  exact ⟨⟨x, hu.cell hx (by simpa using hr), hx2⟩, c, t, (hu.block _ hl (by simpa using hr)).trans hb⟩
theorem ErrAt.apart {base : Nat} {w : World} {a : Addr} {s : List UInt8} {r : Nat} {bs : List UInt8} {fv : Value} (h : ErrAt w a s) (hr : Rdr base w r bs fv) (hf : isF fv) : a.block ≠ r := by
  rintro rfl
  obtain ⟨x, hx, _⟩ := h.cell
  obtain ⟨v, hv, hs⟩ := hr
  obtain ⟨ao, cap, rfl, _⟩ := hs
  simp only [World.cell?, hv] at hx
  split at hx
  · cases hx
  · match a.off, hx with
    | 0, hx => simp at hx
    | 1, hx =>
      simp at hx
      rcases hf with rfl | ⟨b, rfl⟩
      · cases hx
      · cases hx
    | n + 2, hx => simp at hx

/-- The package variables of the set S hold their errors at the addresses that ad tells. -/
def ErrSet (S : List Nat) (txt : Nat → List UInt8) (w : World) (ad : Nat → Addr) : Prop := ∀ g, g ∈ S → Gl w g (ad g) ∧ ErrAt w (ad g) (txt g)
theorem ErrSet.up {S : List Nat} {txt : Nat → List UInt8} {w w' : World} {ad : Nat → Addr} (h : ErrSet S txt w ad) (hu : Up w w') : ErrSet S txt w' ad := fun g hg => ⟨(h g hg).1.up hu, (h g hg).2.up hu⟩
theorem ErrSet.rdr {base : Nat} {S : List Nat} {txt : Nat → List UInt8} {w w' : World} {ad : Nat → Addr} {r : Nat} {bs : List UInt8} {fv : Value} (h : ErrSet S txt w ad) (hr : Rdr base w r bs fv) (hf : isF fv) (hb : But r w w') : ErrSet S txt w' ad :=
  fun g hg => ⟨(h g hg).1.but (gl_ne (h g hg).1 hr) hb, (h g hg).2.but ((h g hg).2.apart hr hf) hb⟩

theorem ErrSet.errs {S : List Nat} {txt : Nat → List UInt8} {w : World} {ad : Nat → Addr} (h : ErrSet S txt w ad) (h1 : 1 ∈ S) (h2 : 2 ∈ S) (h3 : 14 ∈ S) :
    Errs w (ad 1) (ad 2) (ad 14) := ⟨(h _ h1).1, (h _ h2).1, (h _ h3).1⟩

/-! What Number takes is what PutNumber puts, and nothing else. -/
theorem numR_vnF (aS aF : Addr) (rest : List UInt8) : ∀ f i acc x, i + f = 10 → x < 2 ^ (64 - 7 * i) → (0 < i → 0 < x) → numR aS aF i acc (vnF f x ++ rest) = (acc + 2 ^ (7 * i) * x, i + (vnF f x).length, .nilIface) := by
  intro f
  induction f with
  | zero =>
    intro i acc x hi hx hp
    obtain rfl : i = 10 := by omega
    have := hp (by omega)
    simp at hx
    omega
  | succ f ih =>
    intro i acc x hi hx hp
    unfold vnF
    by_cases h : x < 128
    · rw [if_pos h]
      have ht : (UInt8.ofNat x).toNat = x := by rw [UInt8.toNat_ofNat']; omega
      have hb : ¬ ((0 < i ∧ x = 0) ∨ (i = 9 ∧ 1 < x)) := by
        rintro (⟨a, b⟩ | ⟨rfl, b⟩)
        · have := hp a; omega
        · simp at hx; omega
      simp only [List.cons_append, List.nil_append, numR, ht, if_neg hb, if_pos h, List.length_singleton]
      rw [Nat.mod_eq_of_lt h]
    · rw [if_neg h]
      have hm : x % 128 < 128 := Nat.mod_lt _ (by omega)
      have ht : (UInt8.ofNat (x % 128 + 128)).toNat = x % 128 + 128 := by rw [UInt8.toNat_ofNat']; omega
      have hi9 : i ≠ 9 := by rintro rfl; simp at hx; omega
      have hb : ¬ ((0 < i ∧ x % 128 + 128 = 0) ∨ (i = 9 ∧ 1 < x % 128 + 128)) := by omega
      have e : 2 ^ (7 * (i + 1)) = 2 ^ (7 * i) * 128 := by rw [show 7 * (i + 1) = 7 * i + 7 by omega, Nat.pow_add]
      have e2 : 2 ^ (64 - 7 * i) = 2 ^ (64 - 7 * (i + 1)) * 128 := by rw [show 64 - 7 * i = (64 - 7 * (i + 1)) + 7 by omega, Nat.pow_add]
      have hx' : x / 128 < 2 ^ (64 - 7 * (i + 1)) := by
        rw [e2] at hx
        exact Nat.div_lt_of_lt_mul (by rwa [Nat.mul_comm] at hx)
      simp only [List.cons_append, numR, ht, if_neg hb, if_neg (show ¬ x % 128 + 128 < 128 by omega)]
      rw [ih (i + 1) _ (x / 128) (by omega) hx' (fun _ => by omega)]
      simp only [List.length_cons]
      congr 1
      · rw [e]
        have e3 : (x % 128 + 128) % 128 = x % 128 := by omega
        have e4 : x = x % 128 + 128 * (x / 128) := by omega
        rw [e3, Nat.add_assoc]
        congr 1
        rw [Nat.mul_assoc, ← Nat.mul_add, ← e4]
      · congr 1; omega

/-- Bytes that begin as PutNumber puts x: Number answers x. -/
theorem numR_vn (aS aF : Addr) (x : Nat) (rest : List UInt8) (hx : x < 2 ^ 64) : numR aS aF 0 0 (vn x ++ rest) = (x, (vn x).length, .nilIface) := by
  have h := numR_vnF aS aF rest 10 0 0 x (by omega) (by simpa using hx) (by omega)
  simpa [vn] using h

theorem numR_inv (aS aF : Addr) (bs : List UInt8) : ∀ i acc X n, i ≤ 9 → numR aS aF i acc bs = (X, n, .nilIface) → ∃ x k, X = acc + 2 ^ (7 * i) * x ∧ n = i + k ∧ bs.take k = vnF (10 - i) x ∧ (0 < i → 0 < x) := by
  induction bs with
  | nil => intro i acc X n _ h; simp [numR] at h
  | cons c r ih =>
    intro i acc X n hi h
    unfold numR at h
    by_cases hb : (0 < i ∧ c.toNat = 0) ∨ (i = 9 ∧ 1 < c.toNat)
    · rw [if_pos hb] at h; simp at h
    · rw [if_neg hb] at h
      obtain ⟨f, hf⟩ : ∃ f, 10 - i = f + 1 := ⟨9 - i, by omega⟩
      by_cases hs : c.toNat < 128
      · rw [if_pos hs] at h
        simp only [Prod.mk.injEq] at h
        obtain ⟨rfl, rfl, _⟩ := h
        refine ⟨c.toNat, 1, by rw [Nat.mod_eq_of_lt hs], rfl, ?_, fun h0 => by omega⟩
        rw [hf]
        simp [vnF, hs]
      · rw [if_neg hs] at h
        obtain ⟨x, k, h1, h2, h3, h4⟩ := ih (i + 1) _ X n (by omega) h
        have hx := h4 (by omega)
        have e : 2 ^ (7 * (i + 1)) = 2 ^ (7 * i) * 128 := by rw [show 7 * (i + 1) = 7 * i + 7 by omega, Nat.pow_add]
        have hc := c.toNat_lt
        refine ⟨c.toNat % 128 + 128 * x, k + 1, ?_, by omega, ?_, fun _ => by omega⟩
        · rw [h1, e, Nat.add_assoc]
          congr 1
          rw [Nat.mul_assoc, ← Nat.mul_add]
        · rw [List.take_succ_cons, h3, hf, vnF, if_neg (by omega), show 10 - (i + 1) = f by omega]
          congr 1
          · apply UInt8.toNat.inj
            rw [UInt8.toNat_ofNat']; omega
          · congr 1; omega

theorem numR_take (aS aF : Addr) (bs : List UInt8) (x n : Nat) (h : numR aS aF 0 0 bs = (x, n, .nilIface)) : bs.take n = vn x := by
  obtain ⟨y, k, h1, h2, h3, _⟩ := numR_inv aS aF bs 0 0 x n (by omega) h
  obtain rfl : x = y := by simpa using h1
  obtain rfl : n = k := by omega
  exact h3
end Go.Proofs.YtooclofdljampaaDoor
