/- table: the calls that turn a tree of ints, and over it balanced. Laid by genTree.py out of tree2.src. Own work. -/
import Derived.Test.YtldmiieepikjnaaTbTI
set_option linter.unusedVariables false
set_option linter.unusedSimpArgs false
namespace Go.Proofs.Ytldmiieepikjnaa
open Go Go.RowKit

/-- What a call that makes a tree answers: a node, whose pairs are these. -/
def RI (w : World) (xs : List (KV Int)) (e : Ending) (w' : World) : Prop :=
  ∃ n p k v l r, e = .returned (.pointer (some ⟨n, 0, none⟩)) ∧ TI w' (.node n p k v l r) ∧ (Tr.node n p k v l r).els = xs ∧ Up w w'

set_option maxHeartbeats 2000000 in
theorem turnLI_any (b p b2 p2 : Nat) (k k2 : ByteArray) (v v2 : Int) (A B C : Tr Int) (w : World) (h : TI w (.node b p k v A (.node b2 p2 k2 v2 B C))) (hb : A.els.length + B.els.length + C.els.length ≤ 2305843009213693952) :
    Calls Try.prog 78 #[.pointer (some ⟨b, 0, none⟩)] w (RI w (Tr.node b p k v A (.node b2 p2 k2 v2 B C)).els) := by
  have h2 := h.2.2.2
  obtain ⟨c0, c1, c2, _, _⟩ := h.cells
  obtain ⟨d0, d1, d2, _, _⟩ := h2.cells
  change w.cell? ⟨b, 2, none⟩ = some (.pointer (some ⟨b2, 0, none⟩)) at c2
  have fin : ∀ {n1 n2 : Nat} {w1 w2 : World}, TI w2 (.node n2 p2 k2 v2 (.node n1 p k v A B) C) → Up w w2 →
      RI w (Tr.node b p k v A (.node b2 p2 k2 v2 B C)).els (.returned (.pointer (some ⟨n2, 0, none⟩))) w2 := fun ht hu =>
    ⟨_, _, _, _, _, _, rfl, ht, by simp [Tr.els], hu⟩
  have k1 : ∀ {w' : World}, Up w w' → Calls Try.prog 63 #[.pointer (some ⟨p, 0, none⟩), .pointer A.ptr, .pointer B.ptr] w' fun e w'' => ∃ n, e = .returned (.pointer (some ⟨n, 0, none⟩)) ∧ TI w'' (.node n p k v A B) ∧ Up w w'' := fun {w'} u =>
    (overI_any p k v A B w' ((u.block p (Array.getElem?_eq_some_iff.1 h.2.1).1).trans h.2.1) (IsT.up h.2.2.1 u) (IsT.up h2.2.2.1 u) (by omega)).mono fun e w'' ⟨n, he, ht, hu⟩ => ⟨n, he, ht, u.trans hu⟩
  have k2' : ∀ {w' : World} {n1 : Nat}, Up w w' → TI w' (.node n1 p k v A B) → Calls Try.prog 63 #[.pointer (some ⟨p2, 0, none⟩), .pointer (some ⟨n1, 0, none⟩), .pointer C.ptr] w' fun e w'' => ∃ n, e = .returned (.pointer (some ⟨n, 0, none⟩)) ∧ TI w'' (.node n p2 k2 v2 (.node n1 p k v A B) C) ∧ Up w w'' := fun {w' n1} u ht =>
    (overI_any p2 k2 v2 (.node n1 p k v A B) C w' ((u.block p2 (Array.getElem?_eq_some_iff.1 h2.2.1).1).trans h2.2.1) ht (IsT.up h2.2.2.2 u) (by simp only [Tr.els, List.length_append, List.length_cons]; omega)).mono fun e w'' ⟨n, he, ht, hu⟩ => ⟨n, he, ht, u.trans hu⟩
  have sof : ∀ {w' : World}, Up w w' → w'.cell? ⟨b, 0, none⟩ = some (.pointer (some ⟨p, 0, none⟩)) ∧ w'.cell? ⟨b, 1, none⟩ = some (.pointer A.ptr) ∧ w'.cell? ⟨b, 2, none⟩ = some (.pointer (some ⟨b2, 0, none⟩)) ∧
      w'.cell? ⟨b2, 0, none⟩ = some (.pointer (some ⟨p2, 0, none⟩)) ∧ w'.cell? ⟨b2, 1, none⟩ = some (.pointer B.ptr) ∧ w'.cell? ⟨b2, 2, none⟩ = some (.pointer C.ptr) ∧ Up w w' := fun u =>
    ⟨(u.cell (World.block_lt_of_cell? w _ c0)).trans c0, (u.cell (World.block_lt_of_cell? w _ c1)).trans c1, (u.cell (World.block_lt_of_cell? w _ c2)).trans c2, (u.cell (World.block_lt_of_cell? w _ d0)).trans d0, (u.cell (World.block_lt_of_cell? w _ d1)).trans d1, (u.cell (World.block_lt_of_cell? w _ d2)).trans d2, u⟩
  clear h h2 c0 c1 c2 d0 d1 d2 hb
  have hs := sof (Up.drew w)
  go_enter Try.func78, Try.ntmps78
  go_wp2_with fail
  go_region_held3 (fun w' => w'.cell? ⟨b, 0, none⟩ = some (.pointer (some ⟨p, 0, none⟩)) ∧ w'.cell? ⟨b, 1, none⟩ = some (.pointer A.ptr) ∧ w'.cell? ⟨b, 2, none⟩ = some (.pointer (some ⟨b2, 0, none⟩)) ∧
      w'.cell? ⟨b2, 0, none⟩ = some (.pointer (some ⟨p2, 0, none⟩)) ∧ w'.cell? ⟨b2, 1, none⟩ = some (.pointer B.ptr) ∧ w'.cell? ⟨b2, 2, none⟩ = some (.pointer C.ptr) ∧ Up w w') (exact hs)
    (first
    | (go_at_call_of 63 [Value.pointer B.ptr]; refine (k1 hs.2.2.2.2.2.2).mono ?_; clear k1 hs; rintro e w1 ⟨n1, rfl, t1, u1⟩; have hs := sof u1)
    | (go_at_call_of 63 [Value.pointer C.ptr]; refine (k2' hs.2.2.2.2.2.2 t1).mono ?_; clear k2' hs; rintro e w2 ⟨n2, rfl, t2, u2⟩; have hs := sof u2))
  go_wp2
  go_ret
  exact fin (w1 := w) t2 u2

set_option maxHeartbeats 2000000 in
theorem turnRI_any (b p b2 p2 : Nat) (k k2 : ByteArray) (v v2 : Int) (A B C : Tr Int) (w : World) (h : TI w (.node b p k v (.node b2 p2 k2 v2 A B) C)) (hb : A.els.length + B.els.length + C.els.length ≤ 2305843009213693952) :
    Calls Try.prog 79 #[.pointer (some ⟨b, 0, none⟩)] w (RI w (Tr.node b p k v (.node b2 p2 k2 v2 A B) C).els) := by
  have h2 := h.2.2.1
  obtain ⟨c0, c1, c2, _, _⟩ := h.cells
  obtain ⟨d0, d1, d2, _, _⟩ := h2.cells
  change w.cell? ⟨b, 1, none⟩ = some (.pointer (some ⟨b2, 0, none⟩)) at c1
  have fin : ∀ {n1 n2 : Nat} {w2 : World}, TI w2 (.node n2 p2 k2 v2 A (.node n1 p k v B C)) → Up w w2 →
      RI w (Tr.node b p k v (.node b2 p2 k2 v2 A B) C).els (.returned (.pointer (some ⟨n2, 0, none⟩))) w2 := fun ht hu =>
    ⟨_, _, _, _, _, _, rfl, ht, by simp [Tr.els], hu⟩
  have k1 : ∀ {w' : World}, Up w w' → Calls Try.prog 63 #[.pointer (some ⟨p, 0, none⟩), .pointer B.ptr, .pointer C.ptr] w' fun e w'' => ∃ n, e = .returned (.pointer (some ⟨n, 0, none⟩)) ∧ TI w'' (.node n p k v B C) ∧ Up w w'' := fun {w'} u =>
    (overI_any p k v B C w' ((u.block p (Array.getElem?_eq_some_iff.1 h.2.1).1).trans h.2.1) (IsT.up h2.2.2.2 u) (IsT.up h.2.2.2 u) (by omega)).mono fun e w'' ⟨n, he, ht, hu⟩ => ⟨n, he, ht, u.trans hu⟩
  have k2' : ∀ {w' : World} {n1 : Nat}, Up w w' → TI w' (.node n1 p k v B C) → Calls Try.prog 63 #[.pointer (some ⟨p2, 0, none⟩), .pointer A.ptr, .pointer (some ⟨n1, 0, none⟩)] w' fun e w'' => ∃ n, e = .returned (.pointer (some ⟨n, 0, none⟩)) ∧ TI w'' (.node n p2 k2 v2 A (.node n1 p k v B C)) ∧ Up w w'' := fun {w' n1} u ht =>
    (overI_any p2 k2 v2 A (.node n1 p k v B C) w' ((u.block p2 (Array.getElem?_eq_some_iff.1 h2.2.1).1).trans h2.2.1) (IsT.up h2.2.2.1 u) ht (by simp only [Tr.els, List.length_append, List.length_cons]; omega)).mono fun e w'' ⟨n, he, ht, hu⟩ => ⟨n, he, ht, u.trans hu⟩
  have sof : ∀ {w' : World}, Up w w' → w'.cell? ⟨b, 0, none⟩ = some (.pointer (some ⟨p, 0, none⟩)) ∧ w'.cell? ⟨b, 1, none⟩ = some (.pointer (some ⟨b2, 0, none⟩)) ∧ w'.cell? ⟨b, 2, none⟩ = some (.pointer C.ptr) ∧
      w'.cell? ⟨b2, 0, none⟩ = some (.pointer (some ⟨p2, 0, none⟩)) ∧ w'.cell? ⟨b2, 1, none⟩ = some (.pointer A.ptr) ∧ w'.cell? ⟨b2, 2, none⟩ = some (.pointer B.ptr) ∧ Up w w' := fun u =>
    ⟨(u.cell (World.block_lt_of_cell? w _ c0)).trans c0, (u.cell (World.block_lt_of_cell? w _ c1)).trans c1, (u.cell (World.block_lt_of_cell? w _ c2)).trans c2, (u.cell (World.block_lt_of_cell? w _ d0)).trans d0, (u.cell (World.block_lt_of_cell? w _ d1)).trans d1, (u.cell (World.block_lt_of_cell? w _ d2)).trans d2, u⟩
  clear h h2 c0 c1 c2 d0 d1 d2 hb
  have hs := sof (Up.drew w)
  go_enter Try.func79, Try.ntmps79
  go_wp2_with fail
  go_region_held3 (fun w' => w'.cell? ⟨b, 0, none⟩ = some (.pointer (some ⟨p, 0, none⟩)) ∧ w'.cell? ⟨b, 1, none⟩ = some (.pointer (some ⟨b2, 0, none⟩)) ∧ w'.cell? ⟨b, 2, none⟩ = some (.pointer C.ptr) ∧
      w'.cell? ⟨b2, 0, none⟩ = some (.pointer (some ⟨p2, 0, none⟩)) ∧ w'.cell? ⟨b2, 1, none⟩ = some (.pointer A.ptr) ∧ w'.cell? ⟨b2, 2, none⟩ = some (.pointer B.ptr) ∧ Up w w') (exact hs)
    (first
    | (go_at_call_of 63 [Value.pointer C.ptr]; refine (k1 hs.2.2.2.2.2.2).mono ?_; clear k1 hs; rintro e w1 ⟨n1, rfl, t1, u1⟩; have hs := sof u1)
    | (go_at_call 63; refine (k2' hs.2.2.2.2.2.2 t1).mono ?_; clear k2' hs; rintro e w2 ⟨n2, rfl, t2, u2⟩; have hs := sof u2))
  go_wp2
  go_ret
  exact fin t2 u2
end Go.Proofs.Ytldmiieepikjnaa
