/- Merged: Number, RefPut, Take. -/
import Derived.Test.YtcllenlpoknakaaDoorMr12
namespace Go.Proofs.YtcllenlpoknakaaDoor
open Go Go.RowKit

/-- x in groups of seven bits, the lowest first; f: so many groups at the most. -/
def vnF : Nat → Nat → List UInt8
  | 0, _ => []
  | f + 1, x => if x < 128 then [UInt8.ofNat x] else UInt8.ofNat (x % 128 + 128) :: vnF f (x / 128)
def vn (x : Nat) : List UInt8 := vnF 10 x

theorem vnF_length (f x : Nat) : (vnF f x).length ≤ f := by
  induction f generalizing x with
  | zero => simp [vnF]
  | succ f ih => have := ih (x / 128); unfold vnF; split <;> simp <;> omega

/-- What PutNumber's loop keeps: done is put, y is left, in f + 1 groups at the most. -/
def NumInv (x f y : Nat) (done : List UInt8) : Prop := f ≤ 9 ∧ y < 128 ^ (f + 1) ∧ done.length + f ≤ 9 ∧ vn x = done ++ vnF (f + 1) y

theorem NumInv.start (x : Nat) (hx : x < 2 ^ 64) : NumInv x 9 x [] := ⟨by omega, by omega, by simp, rfl⟩
theorem NumInv.next {x f y : Nat} {done : List UInt8} (h : NumInv x f y done) (hy : 128 ≤ y) : NumInv x (f - 1) (y / 128) (done ++ [UInt8.ofNat (y % 128 + 128)]) := by
  obtain ⟨h1, h2, h3, h4⟩ := h
  cases f with
  | zero => omega
  | succ f =>
    refine ⟨by omega, ?_, by simp; omega, ?_⟩
    · rw [Nat.pow_succ] at h2
      simpa using Nat.div_lt_of_lt_mul (by rwa [Nat.mul_comm] at h2)
    · rw [h4, vnF, if_neg (by omega)]
      simp
theorem NumInv.done {x f y : Nat} {done : List UInt8} (h : NumInv x f y done) (hy : y < 128) : vn x = done ++ [UInt8.ofNat y] := by
  rw [h.2.2.2, vnF, if_pos hy]
theorem NumInv.len {x f y : Nat} {done : List UInt8} (h : NumInv x f y done) : done.length ≤ 9 := by have := h.2.2.1; omega

theorem or128_fin : ∀ a : Fin 256, bits .or .u8 (a.val : Int) 128 = ((a.val % 128 + 128 : Nat) : Int) := by decide +kernel
theorem or128_any (y : Nat) : bits .or .u8 ((y : Int) % 256) 128 = ((y % 128 + 128 : Nat) : Int) := by
  have h := or128_fin ⟨y % 256, Nat.mod_lt _ (by omega)⟩
  have e : (((y % 256 : Nat)) : Int) = (y : Int) % 256 := by omega
  simp only [e] at h
  rw [h]
  congr 1
  omega

end Go.Proofs.YtcllenlpoknakaaDoor

set_option linter.unusedVariables false
namespace Go.Proofs.YtcllenlpoknakaaDoor
open Go Go.RowKit

/-- A row of n bytes at the head of block g, the first k of them those of bs. -/
def Fill (w : World) (g n k : Nat) (bs : List UInt8) : Prop := ∃ cur, w.heap[g]? = some (.cells cur 5 (0, 0)) ∧ cur.size = n ∧ cur.toList.take k = Bv (bs.take k)

theorem Fill.cell {w : World} {g n k : Nat} {bs : List UInt8} (h : Fill w g n k bs) (hk : k < n) : (∃ v, w.cell? ⟨g, k, none⟩ = some v) ∧ w.frozen? ⟨g, k, none⟩ = false := by
  obtain ⟨cur, h1, h2, _⟩ := h
  refine ⟨⟨cur[k]'(by omega), ?_⟩, by simp [World.frozen?, h1]⟩
  rw [cell_of_row w g k cur _ _ h1]
  simp [h2, hk]

theorem Fill.next {w : World} {g n k : Nat} {bs : List UInt8} (h : Fill w g n k bs) (hk : k < n) (hn : n = bs.length) : Fill (w.setCell ⟨g, k, none⟩ (B (bs[k]'(by omega)))) g n (k + 1) bs := by
  obtain ⟨cur, h1, h2, h3⟩ := h
  refine ⟨cur.setIfInBounds k (B (bs[k]'(by omega))), ?_, by simp [h2], ?_⟩
  · rw [setCell_eq_setRow w g k cur 5 (0, 0) _ h1]
    exact setRow_heap w g cur _ _ _ h1
  · have hk2 : k < bs.length := by omega
    rw [Array.toList_setIfInBounds]
    apply List.ext_getElem?
    intro i
    by_cases hi : i < k
    · have := congrArg (·[i]?) h3
      simp only [List.getElem?_take, if_pos hi] at this
      simp only [List.getElem?_take, if_pos (show i < k + 1 by omega), List.getElem?_set_ne (show k ≠ i by omega), this]
      simp [hi, show i < k + 1 by omega]
    · by_cases he : i = k
      · subst he
        simp [h2, hk, hk2]
      · simp [List.getElem?_take, show ¬ i < k + 1 by omega]

theorem Fill.own {w : World} {g n : Nat} {bs : List UInt8} (h : Fill w g n n bs) (hn : n = bs.length) (hm : n ≤ maxLen) (base : Nat) (hb : base ≤ g) : Own w 5 base (.slice (some ⟨g, 0, none⟩) n n) bs := by
  obtain ⟨cur, h1, h2, h3⟩ := h
  subst hn
  refine ⟨by simp, .inr ⟨g, bs.length, cur, rfl, hb, h1, Nat.le_refl _, hm, by simp [h2], ?_⟩⟩
  rw [List.take_length] at h3
  simpa using h3




end Go.Proofs.YtcllenlpoknakaaDoor

set_option linter.unusedVariables false
namespace Go.Proofs.YtcllenlpoknakaaDoor
open Go Go.RowKit

/-- An error of errors.New's make, at its address. -/
abbrev E (a : Addr) : Value := .iface 116 (.pointer (some a))

/-- The package variable g holds the error at a. -/
def Gl (w : World) (g : Nat) (a : Addr) : Prop := ∃ t, w.heap[g]? = some (.cells #[E a] t (0, 0))

theorem Gl.cell {w : World} {g : Nat} {a : Addr} (h : Gl w g a) : w.cell? ⟨g, 0, none⟩ = some (E a) := by
  obtain ⟨t, h⟩ := h
  rw [cell_of_row w g 0 _ t _ h]; rfl
theorem Gl.lt {w : World} {g : Nat} {a : Addr} (h : Gl w g a) : g < w.heap.size := by
  obtain ⟨t, h⟩ := h
  exact (Array.getElem?_eq_some_iff.1 h).1
theorem Gl.up {w w' : World} {g : Nat} {a : Addr} (h : Gl w g a) (hu : Up w w') : Gl w' g a := by
  have hl := h.lt
  obtain ⟨t, h⟩ := h
  exact ⟨t, by rw [hu.block g hl]; exact h⟩

/-- All blocks are as they were, but for the block r. -/
abbrev But (r : Nat) (w w' : World) : Prop := w.grownBy w' (some r)

theorem But.refl (r : Nat) (w : World) : But r w w := World.grownBy.refl w _
theorem But.of_up {w w' : World} (r : Nat) (h : Up w w') : But r w w' := ⟨h.os, h.tape, h.output, h.size, fun k hk _ => h.block k hk⟩
theorem But.trans {r : Nat} {a b c : World} (h : But r a b) (k : But r b c) : But r a c :=
  ⟨k.os.trans h.os, k.tape.trans h.tape, k.output.trans h.output, Nat.le_trans h.size k.size, fun i hi hne => (k.block i (Nat.lt_of_lt_of_le hi h.size) hne).trans (h.block i hi hne)⟩
theorem But.below {r B : Nat} {a b : World} (h : But r a b) (hr : B ≤ r) (hB : B ≤ a.heap.size) : Below B a b :=
  ⟨h.os, h.tape, h.output, h.size, fun k hk => h.block k (by omega) (by intro e; cases e; omega)⟩

theorem At.but {w w' : World} {b o r : Nat} {bs : List UInt8} (h : At w b o bs) (hu : But r w w') (hr : b ≠ r) : At w' b o bs := by
  intro i hi
  exact hu.cell (h i hi) (by simpa using hr)

/-- A reader's block: what is left, and the fault. -/
def Rdr (base : Nat) (w : World) (r : Nat) (bs : List UInt8) (fv : Value) : Prop :=
  ∃ v, w.heap[r]? = some (.cells #[v, fv] 91 (0, 0)) ∧ Sl base w v bs

theorem Rdr.lt {base : Nat} {w : World} {r : Nat} {bs : List UInt8} {fv : Value} (h : Rdr base w r bs fv) : r < w.heap.size := by
  obtain ⟨v, h, _⟩ := h
  exact (Array.getElem?_eq_some_iff.1 h).1
theorem Rdr.up {base : Nat} {w w' : World} {r : Nat} {bs : List UInt8} {fv : Value} (h : Rdr base w r bs fv) (hu : Up w w') : Rdr base w' r bs fv := by
  have hl := h.lt
  obtain ⟨v, h, hs⟩ := h
  exact ⟨v, by rw [hu.block r hl]; exact h, hs.up hu⟩

/-- The bytes of a reader lie in another block than the reader. -/
theorem sl_apart {base : Nat} {w : World} {r t : Nat} {bs : List UInt8} {v x fv : Value} (h : w.heap[r]? = some (.cells #[x, fv] t (0, 0))) (hx : ∀ k n, x ≠ .int k n) (hf : ∀ k n, fv ≠ .int k n) (hs : Sl base w v bs) :
    ∀ b o, bs ≠ [] → At w b o bs → b ≠ r := by
  rintro b o hn ha rfl
  have hl : 0 < bs.length := List.length_pos_iff.2 hn
  have := ha 0 hl
  rw [cell_of_row w b _ _ t _ h] at this
  match o, this with
  | 0, this => simp at this; exact hx _ _ this
  | 1, this => simp at this; exact hf _ _ this
  | n + 2, this => simp at this

theorem sl_but {base : Nat} {w w' : World} {r t : Nat} {bs : List UInt8} {v x fv : Value} (h : w.heap[r]? = some (.cells #[x, fv] t (0, 0))) (hx : ∀ k n, x ≠ .int k n) (hf : ∀ k n, fv ≠ .int k n) (hs : Sl base w v bs) (hu : But r w w') : Sl base w' v bs := by
  have hap := sl_apart h hx hf hs
  obtain ⟨ao, cap, rfl, hc, hn, hxx⟩ := hs
  refine ⟨ao, cap, rfl, hc, hn, fun hb => ?_⟩
  obtain ⟨b, o, rfl, hbb, ha⟩ := hxx hb
  exact ⟨b, o, rfl, hbb, ha.but hu (hap b o hb ha)⟩

theorem Sl.ne_int {base : Nat} {w : World} {v : Value} {bs : List UInt8} (h : Sl base w v bs) : ∀ k n, v ≠ .int k n := by
  obtain ⟨ao, cap, rfl, _⟩ := h
  intro k n e; cases e

theorem heap_setCell2 (w : World) (r t i : Nat) (cs : Array Value) (u : Value) (h : w.heap[r]? = some (.cells cs t (0, 0))) :
    (w.setCell ⟨r, i, none⟩ u).heap[r]? = some (.cells (cs.setIfInBounds i u) t (0, 0)) := by
  rw [setCell_eq_setRow w r i cs t (0, 0) u h]
  exact setRow_heap w r cs _ t _ h

theorem But.setCell (w : World) (r i : Nat) (u : Value) : But r w (w.setCell ⟨r, i, none⟩ u) :=
  ⟨rfl, rfl, rfl, by simp [World.setCell], fun k _ hne => Below.heap_setCell _ _ _ _ (by intro e; exact hne (by rw [e]))⟩

theorem elem_bytes : Tryd.prog.elem 33 = 5 := by kernel_rfl
theorem size_u8 (u : World) : (sizeOf 5).run Tryd.prog u = .ok 1 u := by
  obtain ⟨i0, hi, hz0, hz1, hz2⟩ := info_parts Tryd.infoU8
  simp [sizeOf, typeInfo, hi, hz1]

/-- b[l:h] of a slice of bytes. -/
theorem sl_cut {base : Nat} {w : World} {v : Value} {bs : List UInt8} (hs : Sl base w v bs) (l h : Nat) (hl : l ≤ h) (hh : h ≤ bs.length) :
    ∃ v', Sl base w v' ((bs.drop l).take (h - l)) ∧
      (∀ u, (Instr.slice 33 v (some (.int .i64 (l : Int))) (some (.int .i64 (h : Int))) none).run Tryd.prog u = .ok v' u) ∧
      (l = 0 → ∀ u, (Instr.slice 33 v none (some (.int .i64 (h : Int))) none).run Tryd.prog u = .ok v' u) ∧
      (h = bs.length → ∀ u, (Instr.slice 33 v (some (.int .i64 (l : Int))) none none).run Tryd.prog u = .ok v' u) := by
  obtain ⟨ao, cap, rfl, hc, hn, hx⟩ := hs
  have hu : Tryd.prog.underlying 33 = some (.slice (Tryd.prog.elem 33)) := by rw [elem_bytes]; exact Tryd.underlying33
  refine ⟨sliced ao l h cap 1, ?_, fun u => ?_, ?_, ?_⟩
  · refine ⟨if cap = l then ao else ao.map (·.add (l * 1)), cap - l, ?_, ?_, ?_, ?_⟩
    · simp [sliced]; omega
    · simp; omega
    · intro e
      split at e
      · omega
      · simp at e; have := hn e; omega
    · intro hne
      have hb : bs ≠ [] := by rintro rfl; simp at hne
      obtain ⟨b, o, rfl, hbb, ha⟩ := hx hb
      have hlt : l < h := by
        rcases Nat.lt_or_ge l h with h1 | h1
        · exact h1
        · exact absurd (by rw [show h - l = 0 by omega]; simp) hne
      rw [if_neg (by omega)]
      refine ⟨b, o + l, by simp [Addr.add_lit], hbb, ?_⟩
      intro i hi
      have hi' : i < h - l ∧ l + i < bs.length := by simp at hi; omega
      rw [Nat.add_assoc, ha (l + i) hi'.2]
      simp
  · rw [run_slice_lh u 33 ao _ cap hu .i64 .i64 _ _ (by omega) (by omega) (by omega), elem_bytes, size_u8]
    simp [Result.andThen]
  · rintro rfl u
    rw [run_slice_h u 33 ao _ cap hu .i64 _ (by omega) (by omega), elem_bytes, size_u8]
    simp [Result.andThen]
  · rintro rfl u
    rw [run_slice_l u 33 ao _ cap hu .i64 _ (by omega) (by omega), elem_bytes, size_u8]
    simp [Result.andThen]
end Go.Proofs.YtcllenlpoknakaaDoor
