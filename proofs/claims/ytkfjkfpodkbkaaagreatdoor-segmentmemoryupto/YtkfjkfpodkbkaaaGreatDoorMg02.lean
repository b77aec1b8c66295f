/- Merged: Lib, Box, DkCon. -/
import Derived.WalkKit
import Derived.WalkLawsBesides
import Derived.Laws.AppendOwnNone
import Derived.Laws.CopyOwn
namespace Go.Proofs.YtkfjkfpodkbkaaaGreatDoor
open Go Go.RowKit

/-- A byte as a value. -/
abbrev B (c : UInt8) : Value := .int .u8 (c.toNat : Int)

/-- The bytes bs lie at the cells from ⟨b, o⟩ on. -/
def At (w : World) (b o : Nat) (bs : List UInt8) : Prop := ∀ i (h : i < bs.length), w.cell? ⟨b, o + i, none⟩ = some (B bs[i])

/-- The slice v reads as the bytes bs; they lie in a block from base on. -/
def Sl (base : Nat) (w : World) (v : Value) (bs : List UInt8) : Prop :=
  ∃ ao cap, v = .slice ao bs.length cap ∧ bs.length ≤ cap ∧ (ao = none → cap = 0) ∧ (bs ≠ [] → ∃ b o, ao = some ⟨b, o, none⟩ ∧ base ≤ b ∧ At w b o bs)

/-- Behind w' all blocks of w are as they were. -/
abbrev Up (w w' : World) : Prop := Below w.heap.size w w'

theorem Up.refl (w : World) : Up w w := Below.refl _ w
theorem Up.trans {a b c : World} (h : Up a b) (k : Up b c) : Up a c := Below.trans h (k.mono h.size)
theorem Up.alloc (w : World) (o : Obj) : Up w (w.alloc o) := (Below.refl _ w).alloc (Nat.le_refl _) o
theorem Up.drew (w : World) : Up w w.drew := (Below.refl _ w).drew

theorem At.lt {w : World} {b o : Nat} {bs : List UInt8} (h : At w b o bs) (hn : bs ≠ []) : b < w.heap.size := by
  have hl : 0 < bs.length := List.length_pos_iff.2 hn
  exact World.block_lt_of_cell? w _ (h 0 hl)

theorem At.up {w w' : World} {b o : Nat} {bs : List UInt8} (h : At w b o bs) (hu : Up w w') : At w' b o bs := by
  intro i hi
  have hb := h.lt (by intro e; simp [e] at hi)
  rw [hu.cell hb]
  exact h i hi

theorem Sl.up {base : Nat} {w w' : World} {v : Value} {bs : List UInt8} (h : Sl base w v bs) (hu : Up w w') : Sl base w' v bs := by
  obtain ⟨ao, cap, rfl, hc, hn, hx⟩ := h
  refine ⟨ao, cap, rfl, hc, hn, fun hb => ?_⟩
  obtain ⟨b, o, rfl, hbb, ha⟩ := hx hb
  exact ⟨b, o, rfl, hbb, ha.up hu⟩

theorem Sl.mono {base base' : Nat} {w : World} {v : Value} {bs : List UInt8} (h : Sl base w v bs) (hb : base' ≤ base) : Sl base' w v bs := by
  obtain ⟨ao, cap, rfl, hc, hn, hx⟩ := h
  refine ⟨ao, cap, rfl, hc, hn, fun hbs => ?_⟩
  obtain ⟨b, o, rfl, hbb, ha⟩ := hx hbs
  exact ⟨b, o, rfl, Nat.le_trans hb hbb, ha⟩

theorem Sl.nil (base : Nat) (w : World) : Sl base w (.slice none 0 0) [] := ⟨none, 0, rfl, Nat.le_refl _, fun _ => rfl, fun h => absurd rfl h⟩

/-- The list of a byte list's values. -/
abbrev Bv (bs : List UInt8) : List Value := bs.map B

theorem Bv_one (bs : List UInt8) : ∀ u ∈ Bv bs, u.oneCell' = true := by
  intro u hu
  obtain ⟨c, _, rfl⟩ := List.mem_map.1 hu
  rfl

theorem At.add {w : World} {b o : Nat} {bs : List UInt8} (h : At w b o bs) : ∀ j u, (Bv bs)[j]? = some u → w.cell? ((⟨b, o, none⟩ : Addr).add j) = some u := by
  intro j u hu
  rw [Addr.add_lit]
  obtain ⟨hj, e⟩ := List.getElem?_eq_some_iff.1 hu
  simp at hj
  rw [h j hj]
  simpa using congrArg some e

/-- A row of the call's own that holds just these bytes (and room behind them): a slice at its head. -/
def Own (w : World) (e : TypeId) (base : Nat) (v : Value) (bs : List UInt8) : Prop := w.ownsRow base e 1 v bs.length (Bv bs)

theorem Own.sl {w : World} {e : TypeId} {base : Nat} {v : Value} {bs : List UInt8} (h : Own w e base v bs) : Sl base w v bs := by
  obtain ⟨hl, ⟨rfl, hn⟩ | ⟨g, cap, cur, rfl, hb, hg, hnc, hcm, hcs, ht⟩⟩ := h
  · obtain rfl : bs = [] := List.eq_nil_of_length_eq_zero hn
    exact Sl.nil base w
  · refine ⟨some ⟨g, 0, none⟩, cap, rfl, hnc, (by intro e; cases e), fun hbs => ⟨g, 0, rfl, hb, ?_⟩⟩
    intro i hi
    rw [cell_of_row w g _ cur e (0, 0) hg]
    have : (Bv bs)[i]? = some (B bs[i]) := by simp [hi]
    rw [← ht, List.getElem?_take] at this
    split at this
    · simpa using this
    · cases this

theorem Own.nil (w : World) (e : TypeId) (base : Nat) : Own w e base (.slice none 0 0) [] := World.ownsRow_nil w base e 1

end Go.Proofs.YtkfjkfpodkbkaaaGreatDoor

set_option linter.unusedVariables false
namespace Go.Proofs.YtkfjkfpodkbkaaaGreatDoor
open Go Go.RowKit

/-- The block k holds just these cells. -/
def Box (w : World) (k : Nat) (cs : Array Value) : Prop := ∃ t, w.heap[k]? = some (.cells cs t (0, 0))

theorem Box.lt {w : World} {k : Nat} {cs : Array Value} (h : Box w k cs) : k < w.heap.size := by
  obtain ⟨t, h⟩ := h
  exact (Array.getElem?_eq_some_iff.1 h).1
theorem Box.cell {w : World} {k : Nat} {cs : Array Value} (h : Box w k cs) (i : Nat) : w.cell? ⟨k, i, none⟩ = cs[i]? := by
  obtain ⟨t, h⟩ := h
  exact cell_of_row _ _ _ _ _ _ h
theorem Box.frozen {w : World} {k : Nat} {cs : Array Value} (h : Box w k cs) (i : Nat) : w.frozen? ⟨k, i, none⟩ = false := by
  obtain ⟨t, h⟩ := h
  simp [World.frozen?, h]
theorem Box.up {w w' : World} {k : Nat} {cs : Array Value} (h : Box w k cs) (u : Up w w') : Box w' k cs := by
  have hl := h.lt
  obtain ⟨t, h⟩ := h
  exact ⟨t, by rw [u.block k hl]; exact h⟩
theorem Box.new (w : World) (cs : Array Value) (t : TypeId) : Box (w.alloc (.cells cs t)) w.heap.size cs := ⟨t, heap_alloc_new _ _⟩
theorem Box.newAt {w : World} {cs : Array Value} {t : TypeId} {k : Nat} (e : w.heap.size = k) : Box (w.alloc (.cells cs t)) k cs := by subst e; exact Box.new _ _ _
theorem Box.alloc {w : World} {k : Nat} {cs : Array Value} (h : Box w k cs) (o : Obj) : Box (w.alloc o) k cs := h.up (Up.alloc _ _)
theorem Box.drew {w : World} {k : Nat} {cs : Array Value} (h : Box w k cs) : Box w.drew k cs := h
theorem Box.set {w : World} {k : Nat} {cs : Array Value} (h : Box w k cs) (i : Nat) (v : Value) : Box (w.setCell ⟨k, i, none⟩ v) k (cs.setIfInBounds i v) := by
  obtain ⟨t, h⟩ := h
  exact ⟨t, heap_setCell_same _ _ _ _ _ _ h⟩
theorem Box.other {w : World} {k g : Nat} {cs : Array Value} (h : Box w k cs) (hne : k ≠ g) (i : Nat) (v : Value) : Box (w.setCell ⟨g, i, none⟩ v) k cs := by
  obtain ⟨t, h⟩ := h
  refine ⟨t, ?_⟩
  rw [heap_setCell_other _ ⟨g, i, none⟩ _ _ hne]
  exact h
theorem Box.setRow {w : World} {k : Nat} {cs : Array Value} (h : Box w k cs) (ds : Array Value) : Box (w.setRow k ds) k ds := by
  obtain ⟨t, h⟩ := h
  exact ⟨t, setRow_heap _ _ _ _ _ _ h⟩
theorem Box.otherRow {w : World} {k g : Nat} {cs : Array Value} (h : Box w k cs) (hne : k ≠ g) (ds : Array Value) : Box (w.setRow g ds) k cs := by
  obtain ⟨t, h⟩ := h
  exact ⟨t, by rw [setRow_other _ _ _ _ hne]; exact h⟩
theorem Up.setRow {w w' : World} {k : Nat} (h : Up w w') (hk : w.heap.size ≤ k) (ds : Array Value) : Up w (w'.setRow k ds) :=
  Below.trans h (⟨rfl, rfl, rfl, by simp, fun g hg => setRow_other _ _ _ _ (by omega)⟩ : Below w.heap.size w' (w'.setRow k ds))
theorem up_drewN (w : World) (n : Nat) : Up w (w.drewN n) := ⟨rfl, rfl, rfl, Nat.le_refl _, fun _ _ => rfl⟩
/-- A box that was made ahead of a draw. -/
theorem box_al {w w' : World} {cs : Array Value} {t : TypeId} (u : Up (w.alloc (.cells cs t)).drew w') : Box w' w.heap.size cs := Box.up (Box.new w cs t).drew u
theorem up_al {w w' : World} {o : Obj} (h : Up w w') : Up w (w'.alloc o).drew := (h.trans (Up.alloc _ _)).trans (Up.drew _)

/-- Boxes of two, three, six cells for the walk. -/
theorem Box.c2 {w : World} {k : Nat} {a b : Value} (h : Box w k #[a, b]) : w.cell? ⟨k, 0, none⟩ = some a ∧ w.cell? ⟨k, 1, none⟩ = some b := ⟨h.cell 0, h.cell 1⟩
theorem Box.c3 {w : World} {k : Nat} {a b c : Value} (h : Box w k #[a, b, c]) : w.cell? ⟨k, 0, none⟩ = some a ∧ w.cell? ⟨k, 1, none⟩ = some b ∧ w.cell? ⟨k, 2, none⟩ = some c := ⟨h.cell 0, h.cell 1, h.cell 2⟩
theorem Box.c5 {w : World} {k : Nat} {a b c d e : Value} (h : Box w k #[a, b, c, d, e]) : w.cell? ⟨k, 0, none⟩ = some a ∧ w.cell? ⟨k, 1, none⟩ = some b ∧ w.cell? ⟨k, 2, none⟩ = some c ∧ w.cell? ⟨k, 3, none⟩ = some d ∧ w.cell? ⟨k, 4, none⟩ = some e :=
  ⟨h.cell 0, h.cell 1, h.cell 2, h.cell 3, h.cell 4⟩
theorem Box.c6 {w : World} {k : Nat} {a b c d e f : Value} (h : Box w k #[a, b, c, d, e, f]) : w.cell? ⟨k, 0, none⟩ = some a ∧ w.cell? ⟨k, 1, none⟩ = some b ∧ w.cell? ⟨k, 2, none⟩ = some c ∧ w.cell? ⟨k, 3, none⟩ = some d ∧ w.cell? ⟨k, 4, none⟩ = some e ∧ w.cell? ⟨k, 5, none⟩ = some f :=
  ⟨h.cell 0, h.cell 1, h.cell 2, h.cell 3, h.cell 4, h.cell 5⟩
theorem Box.c13 {w : World} {k : Nat} {a0 a1 a2 a3 a4 a5 a6 a7 a8 a9 a10 a11 a12 : Value} (h : Box w k #[a0, a1, a2, a3, a4, a5, a6, a7, a8, a9, a10, a11, a12]) : w.cell? ⟨k, 0, none⟩ = some a0 ∧ w.cell? ⟨k, 1, none⟩ = some a1 ∧ w.cell? ⟨k, 2, none⟩ = some a2 ∧ w.cell? ⟨k, 3, none⟩ = some a3 ∧ w.cell? ⟨k, 4, none⟩ = some a4 ∧ w.cell? ⟨k, 5, none⟩ = some a5 ∧ w.cell? ⟨k, 6, none⟩ = some a6 ∧ w.cell? ⟨k, 7, none⟩ = some a7 ∧ w.cell? ⟨k, 8, none⟩ = some a8 ∧ w.cell? ⟨k, 9, none⟩ = some a9 ∧ w.cell? ⟨k, 10, none⟩ = some a10 ∧ w.cell? ⟨k, 11, none⟩ = some a11 ∧ w.cell? ⟨k, 12, none⟩ = some a12 :=
  ⟨h.cell 0, h.cell 1, h.cell 2, h.cell 3, h.cell 4, h.cell 5, h.cell 6, h.cell 7, h.cell 8, h.cell 9, h.cell 10, h.cell 11, h.cell 12⟩
theorem Box.c13e {w : World} {k : Nat} {a0 a1 a2 a3 a4 a5 a6 a7 a8 a9 a10 a11 a12 : Value} (h : Box w k #[a0, a1, a2, a3, a4, a5, a6, a7, a8, a9, a10, a11, a12]) : w.cell? ⟨k, 11, none⟩ = some a11 ∧ w.cell? ⟨k, 12, none⟩ = some a12 := ⟨h.cell 11, h.cell 12⟩
/-- Three cells written. -/
theorem Box.set3 {w : World} {k : Nat} {a b c x y z : Value} (h : Box w k #[a, b, c]) : Box (((w.setCell ⟨k, 0, none⟩ x).setCell ⟨k, 1, none⟩ y).setCell ⟨k, 2, none⟩ z) k #[x, y, z] := ((h.set 0 x).set 1 y).set 2 z
theorem Box.set6 {w : World} {k : Nat} {a b c d e f x y z x' y' z' : Value} (h : Box w k #[a, b, c, d, e, f]) :
    Box ((((((w.setCell ⟨k, 0, none⟩ x).setCell ⟨k, 1, none⟩ y).setCell ⟨k, 2, none⟩ z).setCell ⟨k, 3, none⟩ x').setCell ⟨k, 4, none⟩ y').setCell ⟨k, 5, none⟩ z') k #[x, y, z, x', y', z'] := (((((h.set 0 x).set 1 y).set 2 z).set 3 x').set 4 y').set 5 z'
/-- Blocks that are new since w. -/
theorem Up.set3 {w w' : World} {k : Nat} (h : Up w w') (hk : w.heap.size ≤ k) (x y z : Value) : Up w (((w'.setCell ⟨k, 0, none⟩ x).setCell ⟨k, 1, none⟩ y).setCell ⟨k, 2, none⟩ z) := ((h.setCell hk x).setCell hk y).setCell hk z
theorem Up.set6 {w w' : World} {k : Nat} (h : Up w w') (hk : w.heap.size ≤ k) (x y z x' y' z' : Value) :
    Up w ((((((w'.setCell ⟨k, 0, none⟩ x).setCell ⟨k, 1, none⟩ y).setCell ⟨k, 2, none⟩ z).setCell ⟨k, 3, none⟩ x').setCell ⟨k, 4, none⟩ y').setCell ⟨k, 5, none⟩ z') := (((((h.setCell hk x).setCell hk y).setCell hk z).setCell hk x').setCell hk y').setCell hk z'
end Go.Proofs.YtkfjkfpodkbkaaaGreatDoor

set_option linter.unusedVariables false
namespace Go.Proofs.YtkfjkfpodkbkaaaGreatDoor
open Go Go.RowKit

/-- How many sectors n bytes have. -/
def sec (n : Nat) : Nat := (n + 511) / 512

/-- d laid over l from s on; zeros where there was nothing. -/
def over (l : List UInt8) (s : Nat) (d : List UInt8) : List UInt8 :=
  (l ++ List.replicate (s + d.length - l.length) 0).take s ++ d ++ (l ++ List.replicate (s + d.length - l.length) 0).drop (s + d.length)

/-- Sector i of l. -/
def sect (l : List UInt8) (i : Nat) : List UInt8 := (l.drop (512 * i)).take 512

theorem over_length (l : List UInt8) (s : Nat) (d : List UInt8) : (over l s d).length = max l.length (s + d.length) := by
  simp only [over, List.length_append, List.length_take, List.length_drop, List.length_replicate]; omega

theorem getD_app (a b : List UInt8) (p : Nat) : (a ++ b).getD p 0 = if p < a.length then a.getD p 0 else b.getD (p - a.length) 0 := by
  simp only [List.getD_eq_getElem?_getD, List.getElem?_append]
  split <;> rfl

theorem getD_pad (l : List UInt8) (n p : Nat) : (l ++ List.replicate n 0).getD p 0 = l.getD p 0 := by
  rw [getD_app]
  split
  · rfl
  · rename_i h
    simp only [List.getD_eq_getElem?_getD, List.getElem?_replicate]
    have e : l[p]? = none := List.getElem?_eq_none (by omega)
    rw [e]
    split <;> rfl

theorem getD_take (l : List UInt8) (n p : Nat) : (l.take n).getD p 0 = if p < n then l.getD p 0 else 0 := by
  simp only [List.getD_eq_getElem?_getD, List.getElem?_take]
  split <;> rfl

theorem getD_drop (l : List UInt8) (n p : Nat) : (l.drop n).getD p 0 = l.getD (n + p) 0 := by
  simp only [List.getD_eq_getElem?_getD, List.getElem?_drop]

theorem getD_far (l : List UInt8) (p : Nat) (h : l.length ≤ p) : l.getD p 0 = 0 := by
  simp only [List.getD_eq_getElem?_getD, List.getElem?_eq_none h]; rfl

theorem getD_zeros (n p : Nat) : (List.replicate n (0 : UInt8)).getD p 0 = 0 := by
  simp only [List.getD_eq_getElem?_getD, List.getElem?_replicate]
  split <;> rfl

theorem over_get (l : List UInt8) (s : Nat) (d : List UInt8) (p : Nat) :
    (over l s d).getD p 0 = if s ≤ p ∧ p < s + d.length then d.getD (p - s) 0 else l.getD p 0 := by
  unfold over
  generalize hz : l ++ List.replicate (s + d.length - l.length) 0 = z
  have hl : s + d.length ≤ z.length := by rw [← hz]; simp only [List.length_append, List.length_replicate]; omega
  have hp : ∀ q, z.getD q 0 = l.getD q 0 := fun q => by rw [← hz, getD_pad]
  have ht : (z.take s).length = s := by rw [List.length_take]; omega
  rw [getD_app, getD_app, List.length_append, ht, getD_take, getD_drop]
  by_cases h1 : p < s
  · rw [if_pos (by omega), if_pos h1, if_pos h1, if_neg (by omega), hp]
  · by_cases h2 : p < s + d.length
    · rw [if_pos h2, if_neg h1, if_pos ⟨by omega, h2⟩]
    · rw [if_neg h2, if_neg (by omega), hp, show s + d.length + (p - (s + d.length)) = p by omega]

/-- Bytes are told by how many they are and what stands at each place. -/
theorem bytes_ext {l m : List UInt8} (hl : l.length = m.length) (h : ∀ p, p < l.length → l.getD p 0 = m.getD p 0) : l = m := by
  refine List.ext_getElem hl fun i h1 h2 => ?_
  have e := h i h1
  simpa only [List.getD_eq_getElem?_getD, List.getElem?_eq_getElem h1, List.getElem?_eq_getElem h2, Option.getD_some] using e

theorem over_end (l d : List UInt8) : over l l.length d = l ++ d := by
  refine bytes_ext (by rw [over_length, List.length_append]; omega) fun p _ => ?_
  rw [over_get, getD_app]
  by_cases h : p < l.length
  · rw [if_neg (by omega), if_pos h]
  · rw [if_neg h]
    by_cases h2 : p < l.length + d.length
    · rw [if_pos ⟨by omega, h2⟩]
    · rw [if_neg (by omega), getD_far _ _ (by omega), getD_far _ _ (by omega)]

theorem sect_length (l : List UInt8) (i : Nat) : (sect l i).length = min 512 (l.length - 512 * i) := by
  simp only [sect, List.length_take, List.length_drop]

theorem sect_get (l : List UInt8) (i p : Nat) : (sect l i).getD p 0 = if p < 512 then l.getD (512 * i + p) 0 else 0 := by
  unfold sect
  rw [getD_take, getD_drop]

/-- How many of the numbers are below x. -/
def cnt (bad : List Nat) (x : Nat) : Nat := bad.countP fun i => decide (i < x)

theorem cnt_le (bad : List Nat) (x : Nat) : cnt bad x ≤ bad.length := List.countP_le_length
theorem cnt_mono (bad : List Nat) {x y : Nat} (h : x ≤ y) : cnt bad x ≤ cnt bad y :=
  List.countP_mono_left fun i _ hi => by simp only [decide_eq_true_eq] at *; omega

theorem take_cnt : ∀ (bad : List Nat) (x : Nat), bad.Pairwise (· < ·) → bad.take (cnt bad x) = bad.filter fun i => decide (i < x)
  | [], _, _ => rfl
  | a :: bad, x, h => by
    have hp := List.pairwise_cons.1 h
    have ih := take_cnt bad x hp.2
    unfold cnt at *
    by_cases ha : a < x
    · rw [List.countP_cons_of_pos (by simpa using ha), List.take_succ_cons, List.filter_cons_of_pos (by simpa using ha), ih]
    · have hn : ∀ b ∈ bad, ¬ b < x := fun b hb => by have := hp.1 b hb; omega
      have h0 : bad.countP (fun i => decide (i < x)) = 0 := List.countP_eq_zero.2 fun b hb => by simpa using hn b hb
      rw [List.countP_cons_of_neg (by simpa using ha), h0, List.take_zero, List.filter_cons_of_neg (by simpa using ha)]
      exact (List.filter_eq_nil_iff.2 fun b hb => by simpa using hn b hb).symm

theorem drop_cnt : ∀ (bad : List Nat) (x : Nat), bad.Pairwise (· < ·) → bad.drop (cnt bad x) = bad.filter fun i => decide (x ≤ i)
  | [], _, _ => rfl
  | a :: bad, x, h => by
    have hp := List.pairwise_cons.1 h
    have ih := drop_cnt bad x hp.2
    unfold cnt at *
    by_cases ha : a < x
    · rw [List.countP_cons_of_pos (by simpa using ha), List.drop_succ_cons, List.filter_cons_of_neg (by simpa using ha), ih]
    · have hn : ∀ b ∈ bad, ¬ b < x := fun b hb => by have := hp.1 b hb; omega
      have h0 : bad.countP (fun i => decide (i < x)) = 0 := List.countP_eq_zero.2 fun b hb => by simpa using hn b hb
      rw [List.countP_cons_of_neg (by simpa using ha), h0, List.drop_zero]
      refine (List.filter_eq_self.2 fun b hb => ?_).symm
      rcases List.mem_cons.1 hb with rfl | hb
      · simpa using ha
      · have := hp.1 b hb; simp only [decide_eq_true_eq]; omega

/-- The numbers with those from a up to b left out. -/
def cutOut (bad : List Nat) (a b : Nat) : List Nat := bad.take (cnt bad a) ++ bad.drop (cnt bad b)
/-- i put at its place. -/
def putIn (bad : List Nat) (i : Nat) : List Nat := bad.take (cnt bad i) ++ i :: bad.drop (cnt bad i)

theorem rise_cutOut {bad : List Nat} (h : bad.Pairwise (· < ·)) {a b : Nat} (hab : a ≤ b) : (cutOut bad a b).Pairwise (· < ·) := by
  unfold cutOut
  rw [take_cnt _ _ h, drop_cnt _ _ h]
  refine List.pairwise_append.2 ⟨h.filter _, h.filter _, fun x hx y hy => ?_⟩
  have h1 := (List.mem_filter.1 hx).2
  have h2 := (List.mem_filter.1 hy).2
  simp only [decide_eq_true_eq] at h1 h2
  omega

theorem mem_cutOut {bad : List Nat} (h : bad.Pairwise (· < ·)) (a b i : Nat) : i ∈ cutOut bad a b ↔ i ∈ bad ∧ (i < a ∨ b ≤ i) := by
  unfold cutOut
  rw [take_cnt _ _ h, drop_cnt _ _ h, List.mem_append, List.mem_filter, List.mem_filter]
  simp only [decide_eq_true_eq]
  constructor
  · rintro (⟨x, y⟩ | ⟨x, y⟩)
    · exact ⟨x, .inl y⟩
    · exact ⟨x, .inr y⟩
  · rintro ⟨x, y | y⟩
    · exact .inl ⟨x, y⟩
    · exact .inr ⟨x, y⟩

theorem rise_putIn {bad : List Nat} (h : bad.Pairwise (· < ·)) {i : Nat} (hi : i ∉ bad) : (putIn bad i).Pairwise (· < ·) := by
  unfold putIn
  rw [take_cnt _ _ h, drop_cnt _ _ h]
  refine List.pairwise_append.2 ⟨h.filter _, List.pairwise_cons.2 ⟨fun y hy => ?_, h.filter _⟩, fun x hx y hy => ?_⟩
  · obtain ⟨h1, h2⟩ := List.mem_filter.1 hy
    simp only [decide_eq_true_eq] at h2
    rcases Nat.lt_or_ge i y with h3 | h3
    · exact h3
    · exact absurd (show i = y by omega) (fun e => hi (by rw [e]; exact h1))
  · have h1 := (List.mem_filter.1 hx).2
    simp only [decide_eq_true_eq] at h1
    rcases List.mem_cons.1 hy with rfl | hy
    · exact h1
    · have h2 := (List.mem_filter.1 hy).2
      simp only [decide_eq_true_eq] at h2
      omega

theorem mem_putIn {bad : List Nat} (h : bad.Pairwise (· < ·)) (i j : Nat) : j ∈ putIn bad i ↔ j = i ∨ j ∈ bad := by
  unfold putIn
  rw [take_cnt _ _ h, drop_cnt _ _ h, List.mem_append, List.mem_cons, List.mem_filter, List.mem_filter]
  simp only [decide_eq_true_eq]
  constructor
  · rintro (⟨x, _⟩ | x | ⟨x, _⟩)
    · exact .inr x
    · exact .inl x
    · exact .inr x
  · rintro (x | x)
    · exact .inr (.inl x)
    · rcases Nat.lt_or_ge j i with y | y
      · exact .inl ⟨x, y⟩
      · exact .inr (.inr ⟨x, y⟩)

/-- Rising lists are told by what they hold. -/
theorem rise_ext : ∀ {a b : List Nat}, a.Pairwise (· < ·) → b.Pairwise (· < ·) → (∀ i, i ∈ a ↔ i ∈ b) → a = b
  | [], [], _, _, _ => rfl
  | [], y :: b, _, _, h => by have := (h y).2 (List.mem_cons_self ..); simp at this
  | x :: a, [], _, _, h => by have := (h x).1 (List.mem_cons_self ..); simp at this
  | x :: a, y :: b, ha, hb, h => by
    have ha' := List.pairwise_cons.1 ha
    have hb' := List.pairwise_cons.1 hb
    have e : x = y := by
      have h1 := (h x).1 (List.mem_cons_self ..)
      have h2 := (h y).2 (List.mem_cons_self ..)
      rcases List.mem_cons.1 h1 with e | h1
      · exact e
      · rcases List.mem_cons.1 h2 with e | h2
        · exact e.symm
        · have := hb'.1 x h1; have := ha'.1 y h2; omega
    subst e
    refine congrArg _ (rise_ext ha'.2 hb'.2 fun i => ?_)
    constructor
    · intro hi
      rcases List.mem_cons.1 ((h i).1 (List.mem_cons_of_mem _ hi)) with e | h2
      · have := ha'.1 i hi; omega
      · exact h2
    · intro hi
      rcases List.mem_cons.1 ((h i).2 (List.mem_cons_of_mem _ hi)) with e | h2
      · have := hb'.1 i hi; omega
      · exact h2

/-- Bytes, with zeros in the sectors that can't be read, and the numbers of these, rising. -/
structure Con where
  data : List UInt8
  bad : List Nat

theorem Con.ext' {a b : Con} (h : a.data = b.data) (k : a.bad = b.bad) : a = b := by cases a; cases b; cases h; cases k; rfl

/-- In form. -/
structure Con.Ok (c : Con) : Prop where
  rise : c.bad.Pairwise (· < ·)
  there : ∀ i ∈ c.bad, i < sec c.data.length
  zero : ∀ i ∈ c.bad, ∀ p, 512 * i ≤ p → p < 512 * i + 512 → c.data.getD p 0 = 0

/-- d laid over the bytes from s on; its sectors can be read. -/
def Con.put (c : Con) (s : Nat) (d : List UInt8) : Con :=
  if d = [] then c else ⟨over c.data s d, cutOut c.bad (s / 512) (sec (s + d.length))⟩
/-- Sector i, of n bytes, can't be read. -/
def Con.spoil (c : Con) (i n : Nat) : Con := ⟨(c.put (512 * i) (List.replicate n 0)).data, putIn (c.put (512 * i) (List.replicate n 0)).bad i⟩
/-- The first n bytes, whole sectors. -/
def Con.cut (c : Con) (n : Nat) : Con := ⟨c.data.take (min n c.data.length), c.bad.take (cnt c.bad (n / 512))⟩

theorem sec_lt {i n : Nat} : i < sec n ↔ 512 * i < n := by unfold sec; omega
theorem sec_le {i n : Nat} : sec n ≤ i ↔ n ≤ 512 * i := by unfold sec; omega
theorem sec_mul (i : Nat) : sec (512 * i) = i := by unfold sec; omega

theorem Con.Ok.put {c : Con} (h : c.Ok) (s : Nat) (d : List UInt8) : (c.put s d).Ok := by
  unfold Con.put
  split
  · exact h
  · rename_i hd
    have hd' : 0 < d.length := List.length_pos_iff.2 hd
    have hab : s / 512 ≤ sec (s + d.length) := by unfold sec; omega
    refine ⟨rise_cutOut h.rise hab, fun i hi => ?_, fun i hi p h1 h2 => ?_⟩
    · have hm := (mem_cutOut h.rise _ _ i).1 hi
      have := sec_lt.1 (h.there i hm.1)
      show i < sec (over c.data s d).length
      rw [sec_lt, over_length]
      omega
    · have hm := (mem_cutOut h.rise _ _ i).1 hi
      have hz := h.zero i hm.1 p h1 h2
      show (over c.data s d).getD p 0 = 0
      rw [over_get]
      rcases hm.2 with h3 | h3
      · rw [if_neg (by omega)]; exact hz
      · have := sec_le.1 h3
        rw [if_neg (by omega)]; exact hz

theorem Con.Ok.cut {c : Con} (h : c.Ok) (n : Nat) (hn : n % 512 = 0) : (c.cut n).Ok := by
  unfold Con.cut
  refine ⟨?_, fun i hi => ?_, fun i hi p h1 h2 => ?_⟩
  · show (c.bad.take _).Pairwise _
    rw [take_cnt _ _ h.rise]; exact h.rise.filter _
  · change i ∈ c.bad.take _ at hi
    rw [take_cnt _ _ h.rise] at hi
    obtain ⟨h1, h2⟩ := List.mem_filter.1 hi
    simp only [decide_eq_true_eq] at h2
    have := sec_lt.1 (h.there i h1)
    show i < sec (c.data.take _).length
    rw [sec_lt, List.length_take]
    omega
  · change i ∈ c.bad.take _ at hi
    rw [take_cnt _ _ h.rise] at hi
    obtain ⟨h3, h4⟩ := List.mem_filter.1 hi
    show (c.data.take _).getD p 0 = 0
    rw [getD_take]
    split
    · exact h.zero i h3 p h1 h2
    · rfl

theorem Con.spoil_facts {c : Con} (h : c.Ok) (i n : Nat) (hn : 0 < n) (hn2 : n ≤ 512) :
    (c.spoil i n).data = over c.data (512 * i) (List.replicate n 0) ∧ (c.spoil i n).bad.Pairwise (· < ·) ∧ (∀ j, j ∈ (c.spoil i n).bad ↔ j = i ∨ j ∈ c.bad) := by
  have hd : List.replicate n (0 : UInt8) ≠ [] := by intro e; have := congrArg List.length e; simp at this; omega
  have e1 : c.put (512 * i) (List.replicate n 0) = ⟨over c.data (512 * i) (List.replicate n 0), cutOut c.bad (512 * i / 512) (sec (512 * i + (List.replicate n (0 : UInt8)).length))⟩ := if_neg hd
  have e2 : 512 * i / 512 = i := by omega
  have e3 : sec (512 * i + (List.replicate n (0 : UInt8)).length) = i + 1 := by rw [List.length_replicate]; unfold sec; omega
  unfold Con.spoil
  rw [e1, e2, e3]
  have hr := rise_cutOut h.rise (show i ≤ i + 1 by omega)
  have hni : i ∉ cutOut c.bad i (i + 1) := fun hi => by have := ((mem_cutOut h.rise _ _ _).1 hi).2; omega
  refine ⟨rfl, rise_putIn hr hni, fun j => ?_⟩
  show j ∈ putIn (cutOut c.bad i (i + 1)) i ↔ _
  rw [mem_putIn hr, mem_cutOut h.rise]
  constructor
  · rintro (h1 | ⟨h1, _⟩)
    · exact .inl h1
    · exact .inr h1
  · rintro (h1 | h1)
    · exact .inl h1
    · by_cases e : j = i
      · exact .inl e
      · exact .inr ⟨h1, by omega⟩

theorem Con.Ok.spoil {c : Con} (h : c.Ok) (i n : Nat) (hn : 0 < n) (hn2 : n ≤ 512) (hc : c.data.length ≤ 512 * i + n ∨ 512 * i + 512 ≤ 512 * i + n) : (c.spoil i n).Ok := by
  obtain ⟨h1, h2, h3⟩ := Con.spoil_facts h i n hn hn2
  refine ⟨h2, fun j hj => ?_, fun j hj p hp1 hp2 => ?_⟩
  · rw [h1, sec_lt, over_length, List.length_replicate]
    rcases (h3 j).1 hj with rfl | hj
    · omega
    · have := sec_lt.1 (h.there j hj); omega
  · rw [h1, over_get, List.length_replicate]
    split
    · exact getD_zeros _ _
    · rename_i hh
      rcases (h3 j).1 hj with rfl | hj
      · exact getD_far _ _ (by omega)
      · exact h.zero j hj p hp1 hp2

end Go.Proofs.YtkfjkfpodkbkaaaGreatDoor
