/- table: the calls on trees whose values are ints. Laid by genTree.py out of tree.src. Own work. -/
import Derived.Test.YtldmiieepikjnaaChecked
import Derived.Test.YtldmiieepikjnaaTbTree
import Derived.Test.YtldmiieepikjnaaDkLib
import Derived.Test.YtldmiieepikjnaaHeldTo
import Derived.BigQuiet
import Derived.Deep.LoopGhost
import Derived.Deep.RegionHeld3
set_option linter.unusedVariables false
set_option linter.unusedSimpArgs false
namespace Go.Proofs.Ytldmiieepikjnaa
open Go Go.RowKit

abbrev TI (w : World) (t : Tr Int) : Prop := IsT 125 88 (fun x : Int => [Value.int .i64 x]) w t
/-- The pair p is the key k with the value v. -/
abbrev PI (w : World) (p : Nat) (k : ByteArray) (v : Int) : Prop := w.heap[p]? = some (.cells (Value.string k :: (fun x : Int => [Value.int .i64 x]) v).toArray 88 (0, 0))

theorem highI_any (t : Tr Int) (w : World) (h : TI w t) : Calls Try.prog 77 #[.pointer t.ptr] w fun e w' => e = .returned (.int .i64 (t.ht : Int)) ∧ w' = w := by
  cases t with
  | nil =>
    change Calls _ _ #[.pointer none] _ _
    go_enter Try.func77, Try.ntmps77
    go_wp2
    go_ret
    exact ⟨rfl, rfl⟩
  | node n p k v l r =>
    have c3 := h.cells.2.2.2.1
    change Calls _ _ #[.pointer (some ⟨n, 0, none⟩)] _ fun e w' => e = .returned (.int .i64 ((1 + max l.ht r.ht : Nat) : Int)) ∧ w' = w
    obtain ⟨H, hH⟩ : ∃ H : Nat, 1 + max l.ht r.ht = H := ⟨_, rfl⟩
    rw [hH] at c3 ⊢
    clear hH
    go_enter Try.func77, Try.ntmps77
    go_wp2
    go_ret
    exact ⟨rfl, rfl⟩

/-- A new node over two trees. -/
theorem overI_any (p : Nat) (k : ByteArray) (v : Int) (l r : Tr Int) (w : World) (hp : PI w p k v) (hl : TI w l) (hr : TI w r) (hb : l.els.length + r.els.length ≤ 4611686018427387904) :
    Calls Try.prog 63 #[.pointer (some ⟨p, 0, none⟩), .pointer l.ptr, .pointer r.ptr] w fun e w' => ∃ n, e = .returned (.pointer (some ⟨n, 0, none⟩)) ∧ TI w' (.node n p k v l r) ∧ Up w w' := by
  have h1 := highI_any l w hl
  have h2 := highI_any r w hr
  have b1 := l.ht_le
  have b2 := r.ht_le
  have HT : Hid (∀ H, 1 + max l.ht r.ht = H → TI (w.alloc (.cells #[.pointer (some ⟨p, 0, none⟩), .pointer l.ptr, .pointer r.ptr, .int .i64 (H : Int)] 125)) (.node w.heap.size p k v l r)) := by
    rintro H rfl
    exact ⟨heap_alloc_new _ _, (Up.alloc w _).block p (Array.getElem?_eq_some_iff.1 hp).1 |>.trans hp, IsT.up hl (Up.alloc _ _), IsT.up hr (Up.alloc _ _)⟩
  generalize l.ht = hL at h1 b1 HT
  generalize r.ht = hR at h2 b2 HT
  generalize l.ptr = pl at h1 HT ⊢
  generalize r.ptr = pr at h2 HT ⊢
  have hLb : (hL : Int) ≤ 4611686018427387904 := by omega
  have hRb : (hR : Int) ≤ 4611686018427387904 := by omega
  clear b1 b2 hb hp hl hr
  by_cases hlt : (hL : Int) < (hR : Int)
  · have hm : Hid (1 + max hL hR = 1 + hR) := by show _ = _; omega
    go_enter Try.func63, Try.ntmps63
    go_wp2_with (first
      | (go_at_call_of 77 [Value.pointer pl]; refine h1.mono ?_; clear h1; rintro e w1 ⟨rfl, rfl⟩)
      | (go_at_call_of 77 [Value.pointer pr]; refine h2.mono ?_; clear h2; rintro e w1 ⟨rfl, rfl⟩))
    go_ret
    have := HT.out _ hm
    exact ⟨_, rfl, by simpa using this, Up.alloc _ _⟩
  · have hm : Hid (1 + max hL hR = 1 + hL) := by show _ = _; omega
    go_enter Try.func63, Try.ntmps63
    go_wp2_with (first
      | (go_at_call_of 77 [Value.pointer pl]; refine h1.mono ?_; clear h1; rintro e w1 ⟨rfl, rfl⟩)
      | (go_at_call_of 77 [Value.pointer pr]; refine h2.mono ?_; clear h2; rintro e w1 ⟨rfl, rfl⟩))
    go_ret
    have := HT.out _ hm
    exact ⟨_, rfl, by simpa using this, Up.alloc _ _⟩
end Go.Proofs.Ytldmiieepikjnaa
