/- disk: what a call may touch, as a list of blocks; own rows of bytes and of numbers; boxes. Own work; of the program nothing but two types' numbers. -/
import Derived.Test.YtffldmeocmemeaaDoorBox
import Derived.Test.YtffldmeocmemeaaDoorDkFil
set_option linter.unusedVariables false
namespace Go.Proofs.YtffldmeocmemeaaDoor
open Go Go.RowKit

/-- Behind w' all blocks of w but those of S are as they were. -/
structure Touch (w w' : World) (S : List Nat) : Prop where
  os : w'.os = w.os
  tape : w'.tape = w.tape
  output : w'.output = w.output
  size : w.heap.size ≤ w'.heap.size
  block : ∀ k, k < w.heap.size → k ∉ S → w'.heap[k]? = w.heap[k]?

theorem Touch.refl (w : World) (S : List Nat) : Touch w w S := ⟨rfl, rfl, rfl, Nat.le_refl _, fun _ _ _ => rfl⟩
theorem Touch.of_up {w w' : World} (h : Up w w') (S : List Nat) : Touch w w' S := ⟨h.os, h.tape, h.output, h.size, fun k hk _ => h.block k hk⟩
theorem Touch.of_grown {w w' : World} {r : Option Nat} {S : List Nat} (h : w.grownBy w' r) (hr : ∀ k, r = some k → k ∈ S) : Touch w w' S :=
  ⟨h.os, h.tape, h.output, h.size, fun k hk hn => h.block k hk (fun e => hn (hr k e.symm))⟩
theorem Touch.mono {w w' : World} {S S' : List Nat} (h : Touch w w' S) (hs : ∀ k ∈ S, k ∈ S' ∨ w.heap.size ≤ k) : Touch w w' S' :=
  ⟨h.os, h.tape, h.output, h.size, fun k hk hn => h.block k hk (fun hm => (hs k hm).elim hn (fun e => by omega))⟩
theorem Touch.trans {a b c : World} {S S' : List Nat} (h : Touch a b S) (k : Touch b c S') (hs : ∀ k ∈ S', k ∈ S ∨ a.heap.size ≤ k) : Touch a c S :=
  ⟨k.os.trans h.os, k.tape.trans h.tape, k.output.trans h.output, Nat.le_trans h.size k.size,
    fun i hi hn => (k.block i (Nat.lt_of_lt_of_le hi h.size) (fun hm => (hs i hm).elim hn (fun e => by omega))).trans (h.block i hi hn)⟩
theorem Touch.up {w w' : World} {S : List Nat} (h : Touch w w' S) (hs : ∀ k ∈ S, w.heap.size ≤ k) : Up w w' :=
  ⟨h.os, h.tape, h.output, h.size, fun k hk => h.block k hk (fun hm => by have := hs k hm; omega)⟩
theorem Touch.below {w w' : World} {S : List Nat} {B : Nat} (h : Touch w w' S) (hs : ∀ k ∈ S, B ≤ k) (hB : B ≤ w.heap.size) : Below B w w' :=
  ⟨h.os, h.tape, h.output, h.size, fun k hk => h.block k (by omega) (fun hm => by have := hs k hm; omega)⟩
theorem Touch.setCell {w w' : World} {S : List Nat} (h : Touch w w' S) {k : Nat} (hk : k ∈ S ∨ w.heap.size ≤ k) (i : Nat) (v : Value) : Touch w (w'.setCell ⟨k, i, none⟩ v) S :=
  ⟨h.os, h.tape, h.output, by rw [show (w'.setCell ⟨k, i, none⟩ v).heap.size = w'.heap.size by simp [World.setCell]]; exact h.size, fun g hg hn => by
    rw [heap_setCell_other _ ⟨k, i, none⟩ _ _ (by rintro rfl; rcases hk with x | x; exact hn x; omega)]
    exact h.block g hg hn⟩
theorem Touch.setRow {w w' : World} {S : List Nat} (h : Touch w w' S) {k : Nat} (hk : k ∈ S ∨ w.heap.size ≤ k) (cs : Array Value) : Touch w (w'.setRow k cs) S :=
  ⟨h.os, h.tape, h.output, by rw [show (w'.setRow k cs).heap.size = w'.heap.size by simp]; exact h.size, fun g hg hn => by
    rw [setRow_other _ _ _ _ (by rintro rfl; rcases hk with x | x; exact hn x; omega)]
    exact h.block g hg hn⟩
theorem Touch.alloc {w w' : World} {S : List Nat} (h : Touch w w' S) (o : Obj) : Touch w (w'.alloc o) S :=
  h.trans (Touch.of_up (Up.alloc _ _) S) (fun k hk => .inl hk)
theorem Touch.drew {w w' : World} {S : List Nat} (h : Touch w w' S) : Touch w w'.drew S := ⟨h.os, h.tape, h.output, h.size, h.block⟩

/-- What was there and wasn't touched is there. -/
theorem Touch.box {w w' : World} {S : List Nat} {k : Nat} {cs : Array Value} (h : Box w k cs) (t : Touch w w' S) (hk : k ∉ S) : Box w' k cs := by
  have hl := h.lt
  obtain ⟨ty, h⟩ := h
  exact ⟨ty, by rw [t.block k hl hk]; exact h⟩
theorem Touch.row {w w' : World} {S : List Nat} {base : Nat} {e : TypeId} {size : Nat} {v : Value} {n : Nat} {xs : List Value} (h : w.ownsRow base e size v n xs) (t : Touch w w' S) (hk : ∀ k, v.ownBlock = some k → k ∉ S) : w'.ownsRow base e size v n xs := by
  refine ⟨h.1, ?_⟩
  rcases h.2 with hn | ⟨g, cap, cur, rfl, hb, hgg, rest⟩
  · exact .inl hn
  · refine .inr ⟨g, cap, cur, rfl, hb, ?_, rest⟩
    rw [t.block g (Array.getElem?_eq_some_iff.1 hgg).1 (hk g rfl)]
    exact hgg
theorem Touch.at {w w' : World} {S : List Nat} {b o : Nat} {bs : List UInt8} (h : At w b o bs) (t : Touch w w' S) (hk : bs ≠ [] → b ∉ S) : At w' b o bs := by
  intro i hi
  have hne : bs ≠ [] := by intro e; simp [e] at hi
  have hb := h.lt hne
  rw [World.cell?_of_block (t.block b hb (hk hne))]
  exact h i hi
/-- A slice whose bytes lie in no touched block. -/
theorem Touch.sl {w w' : World} {S : List Nat} {base : Nat} {v : Value} {bs : List UInt8} (h : Sl base w v bs) (t : Touch w w' S) (hk : bs ≠ [] → ∀ k, v.ownBlock = some k → k ∉ S) : Sl base w' v bs := by
  obtain ⟨ao, cap, rfl, hc, hn, hx⟩ := h
  refine ⟨ao, cap, rfl, hc, hn, fun hb => ?_⟩
  obtain ⟨b, o, rfl, hbb, ha⟩ := hx hb
  exact ⟨b, o, rfl, hbb, t.at ha (fun hne => hk hne b rfl)⟩

theorem ownsRow_base {w : World} {base base' : Nat} {e : TypeId} {size : Nat} {v : Value} {n : Nat} {xs : List Value} (h : w.ownsRow base e size v n xs) (hb : ∀ k, v.ownBlock = some k → base' ≤ k) : w.ownsRow base' e size v n xs := by
  refine ⟨h.1, ?_⟩
  rcases h.2 with hn | ⟨g, cap, cur, rfl, _, rest⟩
  · exact .inl hn
  · exact .inr ⟨g, cap, cur, rfl, hb g rfl, rest⟩

/-- Numbers of int, not negative, as values. -/
abbrev Nv (zs : List Nat) : List Value := zs.map fun (n : Nat) => Value.int .i64 (n : Int)
theorem Nv_one (zs : List Nat) : ∀ u ∈ Nv zs, u.oneCell' = true := by
  intro u hu
  obtain ⟨c, _, rfl⟩ := List.mem_map.1 hu
  rfl
abbrev OwnB (w : World) (base : Nat) (v : Value) (bs : List UInt8) : Prop := Own w 5 base v bs
/-- An own row of numbers. -/
def OwnN (w : World) (base : Nat) (v : Value) (zs : List Nat) : Prop := w.ownsRow base 3 1 v zs.length (Nv zs)

/-- The block that a slice of one's own lies in, as a list. -/
def ob (v : Value) : List Nat := v.ownBlock.toList
theorem mem_ob {v : Value} {k : Nat} : k ∈ ob v ↔ v.ownBlock = some k := by unfold ob; cases v.ownBlock <;> simp [eq_comm]
theorem ob_nodup (v : Value) : (ob v).Nodup := by unfold ob; cases v.ownBlock <;> simp

/-- A part of a list of unlike blocks is put in place of another one whose blocks are of it or new. -/
theorem nodup_swap {A L M B : List Nat} {n : Nat} (h : (A ++ L ++ B).Nodup) (hM : M.Nodup) (hs : ∀ k ∈ M, k ∈ L ∨ n ≤ k) (hb : ∀ k ∈ A ++ L ++ B, k < n) : (A ++ M ++ B).Nodup := by
  rw [List.nodup_append, List.nodup_append] at h ⊢
  obtain ⟨⟨ha, hl, hal⟩, hbb, hab⟩ := h
  refine ⟨⟨ha, hM, fun x hx y hy => ?_⟩, hbb, fun x hx y hy => ?_⟩
  · rcases hs y hy with h1 | h1
    · exact hal x hx y h1
    · have := hb x (by simp [hx]); omega
  · rcases List.mem_append.1 hx with h1 | h1
    · exact hab x (by simp [h1]) y hy
    · rcases hs x h1 with h2 | h2
      · exact hab x (by simp [h2]) y hy
      · have := hb y (by simp [hy]); omega

end Go.Proofs.YtffldmeocmemeaaDoor
