/- table: the law's yields: what going through a table yields, up to most items. Own work. -/
import Derived.Test.YtldmiieepikjnaaTbFrom
import Derived.Test.YtldmiieepikjnaaTbRef5
set_option linter.unusedVariables false
set_option linter.unusedSimpArgs false
namespace Go.Proofs.Ytldmiieepikjnaa
open Go Go.RowKit
attribute [local go_sem] Oper.semAt_some wideFn

/-- A table, or none, that holds the row xs. -/
def TabP (w : World) (tp : Option Addr) (xs : List (KV Int)) : Prop := (tp = none ∧ xs = []) ∨ ∃ b lim, tp = some ⟨b, 0, none⟩ ∧ TabI w b lim xs
theorem TabP.up {w w' : World} {tp : Option Addr} {xs : List (KV Int)} (h : TabP w tp xs) (u : Up w w') : TabP w' tp xs := by
  rcases h with h | ⟨b, lim, rfl, h⟩
  · exact .inl h
  · exact .inr ⟨b, lim, rfl, h.up u⟩
theorem stopsP (n B1 B2 : Nat) {tp : Option Addr} (k : ByteArray) {xs : List (KV Int)} {w : World} (h : TabP w tp xs) (h1 : w.cell? ⟨B1, 0, none⟩ = some (.pointer tp)) (h2 : w.cell? ⟨B2, 0, none⟩ = some (.string k)) :
    SeqStopsK Fence.wide n Try.prog 51 #[.pointer (some ⟨B1, 0, none⟩), .pointer (some ⟨B2, 0, none⟩)] encKV StI (fun ys => ys = fromL k xs) (fun pre => pre <+: fromL k xs) (fromL k xs).length w := by
  rcases h with ⟨rfl, rfl⟩ | ⟨b, lim, rfl, h⟩
  · exact stops_nil n B1 B2 w h1
  · exact stops_tab n B1 B2 b k lim xs w h1 h2 h
def cut {α : Type} (most : Int) (zs : List α) : List α := if 0 ≤ most then zs.take most.toNat else zs

theorem St_t {A B C : World} (h : StI A B) (k : StI B C) : StI A C := h.trans k
theorem St_b {w : World} (W : World) (l : Nat) (o o' : Obj) (_ : w.heap.size ≤ l) (h : W.heap[l]? = some o) (hc : o.isCells = false) (_ : o.isWalk = false) : StI W (W.putObj l o') :=
  ⟨fun n cs T hT hn => World.putObj_heap_other (by rintro rfl; rw [h] at hn; cases hn; cases hc)⟩
theorem St_grown {A B : World} {row : Option Nat} (g : A.grownBy B row) (hr : ∀ r, row = some r → ∃ cs T fz, A.heap[r]? = some (.cells cs T fz) ∧ T ≠ 125 ∧ T ≠ 88) : StI A B :=
  ⟨fun n cs T hT hn => g.block n (Array.getElem?_eq_some_iff.1 hn).1 (fun e => by
    obtain ⟨cs', T', fz, h1, h2, h3⟩ := hr n e.symm
    rw [hn] at h1
    cases h1
    rcases hT with rfl | rfl
    · exact h2 rfl
    · exact h3 rfl)⟩

set_option maxRecDepth 100000 in
theorem nf1 (a b : Option Addr) (W : World) : (binOp .eql 46 (.func (.func 51) #[] #[.pointer a, .pointer b]) .nilFunc).run Try.prog W = .ok (.bool false) W := by
  first | (rfl) | (kernel_rfl) | (simp [binOp, Op.equal, go_sem])

theorem Boxed.newAt' {W : World} {t : TypeId} {v : Value} {k : Nat} (e : W.heap.size = k) : Boxed (W.alloc (.cells #[v] t)) k t v := by subst e; exact Boxed.new _ _ _
/-- What the loop of yields keeps. -/
def YI (w : World) (most : Int) (pre : List (KV Int)) (W : World) : Prop :=
  ((∃ v, Boxed W (w.heap.size + 1) 39 v ∧ W.ownsRow w.heap.size 51 2 v pre.length (Its pre) ∧ True) ∧ Boxed W w.heap.size 3 (.int .i64 most) ∧ (0 < most → (pre.length : Int) < most)) ∧ Below w.heap.size w W
def YX (w : World) (most : Int) (c : Code) (pre : List (KV Int)) (W : World) : Prop :=
  ((∃ v, Boxed W (w.heap.size + 1) 39 v ∧ W.ownsRow w.heap.size 51 2 v pre.length (Its pre) ∧ True) ∧ c = .exit 0 ∧ (pre.length : Int) = most) ∧ Below w.heap.size w W
theorem boxed_row {W B : World} {row : Option Nat} {k : Nat} {T : TypeId} {v : Value} (h : Boxed W k T v) (hg : W.grownBy B row) (hr : ∀ r, row = some r → ∃ o : Obj, W.heap[r]? = some o ∧ o.isCells = false) : Boxed B k T v :=
  h.kept hg (fun e => by
    obtain ⟨o, ho, hc⟩ := hr k e.symm
    rw [show W.heap[k]? = _ from h] at ho; cases ho; cases hc)
theorem YI_own (w : World) (most : Int) (B : Nat) (hB : w.heap.size ≤ B) : OwnFrom B (YI w most) := fun s X Y row hs hg hr =>
  ⟨⟨holdsRow_own w.heap.size (w.heap.size + 1) 39 51 2 (fun s : List (KV Int) => s.length) (fun s => Its s) (fun _ _ => True) s X Y row hs.1.1 hg (fun r e => (hr r e).2), boxed_row hs.1.2.1 hg (fun r e => (hr r e).2), hs.1.2.2⟩,
    hs.2.grown hg hs.2.size (fun k e => by have := (hr k e).1; omega)⟩
theorem YX_own (w : World) (most : Int) (c : Code) (B : Nat) (hB : w.heap.size ≤ B) : OwnFrom B (YX w most c) := fun s X Y row hs hg hr =>
  ⟨⟨holdsRow_own w.heap.size (w.heap.size + 1) 39 51 2 (fun s : List (KV Int) => s.length) (fun s => Its s) (fun _ _ => True) s X Y row hs.1.1 hg (fun r e => (hr r e).2), hs.1.2⟩,
    hs.2.grown hg hs.2.size (fun k e => by have := (hr k e).1; omega)⟩

end Go.Proofs.Ytldmiieepikjnaa
