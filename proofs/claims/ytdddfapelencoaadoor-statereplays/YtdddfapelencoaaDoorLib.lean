/-
  Bytes in memory, as lists of bytes; what of memory stays behind a call. Own work; imports nothing of the program.
-/
import Derived.WalkKit
import Derived.WalkLawsBesides
import Derived.Laws.AppendOwnNone
import Derived.Laws.CopyOwn
namespace Go.Proofs.YtdddfapelencoaaDoor
open Go Go.RowKit

/-- A byte as a value. -/
abbrev B (c : UInt8) : Value := .int .u8 (c.toNat : Int)

/-- The bytes bs lie at the cells from ⟨b, o⟩ on. -/
def At (w : World) (b o : Nat) (bs : List UInt8) : Prop := ∀ i (h : i < bs.length), w.cell? ⟨b, o + i, none⟩ = some (B bs[i])

/-- The slice v reads as the bytes bs; they lie in a block from base on. -/
def Sl (base : Nat) (w : World) (v : Value) (bs : List UInt8) : Prop :=
  ∃ ao cap, v = .slice ao bs.length cap ∧ bs.length ≤ cap ∧ (ao = none → cap = 0) ∧ (bs ≠ [] → ∃ b o, ao = some ⟨b, o, none⟩ ∧ base ≤ b ∧ At w b o bs)

/-- Behind w' all blocks of w are as they were. -/
abbrev Up (w w' : World) : Prop := Below w.heap.size w w'

theorem Up.refl (w : World) : Up w w := Below.refl _ w
theorem Up.trans {a b c : World} (h : Up a b) (k : Up b c) : Up a c := Below.trans h (k.mono h.size)
theorem Up.alloc (w : World) (o : Obj) : Up w (w.alloc o) := (Below.refl _ w).alloc (Nat.le_refl _) o
theorem Up.drew (w : World) : Up w w.drew := (Below.refl _ w).drew

theorem At.lt {w : World} {b o : Nat} {bs : List UInt8} (h : At w b o bs) (hn : bs ≠ []) : b < w.heap.size := by
  have hl : 0 < bs.length := List.length_pos_iff.2 hn
  exact World.block_lt_of_cell? w _ (h 0 hl)

theorem At.up {w w' : World} {b o : Nat} {bs : List UInt8} (h : At w b o bs) (hu : Up w w') : At w' b o bs := by
  intro i hi
  have hb := h.lt (by intro e; simp [e] at hi)
  rw [hu.cell hb]
  exact h i hi

theorem Sl.up {base : Nat} {w w' : World} {v : Value} {bs : List UInt8} (h : Sl base w v bs) (hu : Up w w') : Sl base w' v bs := by
  obtain ⟨ao, cap, rfl, hc, hn, hx⟩ := h
  refine ⟨ao, cap, rfl, hc, hn, fun hb => ?_⟩
  obtain ⟨b, o, rfl, hbb, ha⟩ := hx hb
  exact ⟨b, o, rfl, hbb, ha.up hu⟩

theorem Sl.mono {base base' : Nat} {w : World} {v : Value} {bs : List UInt8} (h : Sl base w v bs) (hb : base' ≤ base) : Sl base' w v bs := by
  obtain ⟨ao, cap, rfl, hc, hn, hx⟩ := h
  refine ⟨ao, cap, rfl, hc, hn, fun hbs => ?_⟩
  obtain ⟨b, o, rfl, hbb, ha⟩ := hx hbs
  exact ⟨b, o, rfl, Nat.le_trans hb hbb, ha⟩

theorem Sl.nil (base : Nat) (w : World) : Sl base w (.slice none 0 0) [] := ⟨none, 0, rfl, Nat.le_refl _, fun _ => rfl, fun h => absurd rfl h⟩

/-- The list of a byte list's values. -/
abbrev Bv (bs : List UInt8) : List Value := bs.map B

theorem Bv_one (bs : List UInt8) : ∀ u ∈ Bv bs, u.oneCell' = true := by
  intro u hu
  obtain ⟨c, _, rfl⟩ := List.mem_map.1 hu
  rfl

theorem At.add {w : World} {b o : Nat} {bs : List UInt8} (h : At w b o bs) : ∀ j u, (Bv bs)[j]? = some u → w.cell? ((⟨b, o, none⟩ : Addr).add j) = some u := by
  intro j u hu
  rw [Addr.add_lit]
  obtain ⟨hj, e⟩ := List.getElem?_eq_some_iff.1 hu
  simp at hj
  rw [h j hj]
  simpa using congrArg some e

/-- A row of the call's own that holds just these bytes (and room behind them): a slice at its head. -/
def Own (w : World) (e : TypeId) (base : Nat) (v : Value) (bs : List UInt8) : Prop := w.ownsRow base e 1 v bs.length (Bv bs)

theorem Own.sl {w : World} {e : TypeId} {base : Nat} {v : Value} {bs : List UInt8} (h : Own w e base v bs) : Sl base w v bs := by
  obtain ⟨hl, ⟨rfl, hn⟩ | ⟨g, cap, cur, rfl, hb, hg, hnc, hcm, hcs, ht⟩⟩ := h
  · obtain rfl : bs = [] := List.eq_nil_of_length_eq_zero hn
    exact Sl.nil base w
  · refine ⟨some ⟨g, 0, none⟩, cap, rfl, hnc, (by intro e; cases e), fun hbs => ⟨g, 0, rfl, hb, ?_⟩⟩
    intro i hi
    rw [cell_of_row w g _ cur e (0, 0) hg]
    have : (Bv bs)[i]? = some (B bs[i]) := by simp [hi]
    rw [← ht, List.getElem?_take] at this
    split at this
    · simpa using this
    · cases this

theorem Own.nil (w : World) (e : TypeId) (base : Nat) : Own w e base (.slice none 0 0) [] := World.ownsRow_nil w base e 1

end Go.Proofs.YtdddfapelencoaaDoor
