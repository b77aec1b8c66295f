/- table: find, first, with and without of a tree of ints. Laid by genTree.py out of tree4.src. Own work. -/
import Derived.Test.YtldmiieepikjnaaTbVI
set_option linter.unusedVariables false
set_option linter.unusedSimpArgs false
namespace Go.Proofs.Ytldmiieepikjnaa
open Go Go.RowKit

def fpI (o : Option (Nat × ByteArray × Int)) : Option Addr := o.map fun x => ⟨x.1, 0, none⟩
set_option maxHeartbeats 1000000 in
theorem findI_any (t : Tr Int) (k : ByteArray) (w : World) (h : TI w t) : Calls Try.prog 44 #[.pointer t.ptr, .string k] w fun e w' => e = .returned (.pointer (fpI (t.look k))) ∧ w' = w := by
  obtain ⟨X, hX⟩ : ∃ X, fpI (t.look k) = X := ⟨_, rfl⟩
  rw [hX]
  have H0 : Hid (TI w t ∧ fpI (t.look k) = X) := ⟨h, hX⟩
  obtain ⟨pt, hpt⟩ : ∃ pt, t.ptr = pt := ⟨_, rfl⟩
  obtain ⟨N, hN⟩ : ∃ N, t.sz = N := ⟨_, rfl⟩
  have H1 : Hid (t.ptr = pt ∧ t.sz = N) := ⟨hpt, hN⟩
  rw [hpt]
  clear hX hpt hN h
  go_enter Try.func44, Try.ntmps44
  go_wp2
  go_loopg [0] N (fun g s wr => w = wr ∧ ∃ t' : Tr Int, ∃ q, s = .pointer q ∧ Hid (t'.ptr = q ∧ t'.sz = g) ∧ Hid (TI wr t' ∧ fpI (t'.look k) = X))
  case atStart => exact ⟨rfl, t, pt, rfl, H1, H0⟩
  case round =>
    obtain ⟨rfl, t', q, rfl, h1, h2⟩ := hrel
    clear H0 H1
    obtain ⟨rfl, rfl⟩ := h1.out
    clear h1
    cases t' with
    | nil =>
      have hx : none = X := h2.out.2
      clear h2
      subst hx
      change Code.wp _ _ _ { tmps := #[.pointer none, _, _, _, _, _, _, _, _, _, _, _, _, _, _, _, _, _, _, _, _, _, _, _, _, _, _, _, _, _, _, _, _, _, _, _, _, _, _], defers := _ } _
      go_wp2
      go_ret
      exact ⟨rfl, rfl⟩
    | node n p k0 v l r =>
      obtain ⟨c0, c1, c2, _, d0⟩ := h2.out.1.cells
      change Code.wp _ _ _ { tmps := #[.pointer (some ⟨n, 0, none⟩), _, _, _, _, _, _, _, _, _, _, _, _, _, _, _, _, _, _, _, _, _, _, _, _, _, _, _, _, _, _, _, _, _, _, _, _, _, _], defers := _ } _
      cases e1 : kl k k0 with
      | true =>
        have hl : Hid (TI w l ∧ fpI (l.look k) = X) := ⟨h2.out.1.2.2.1, by have := h2.out.2; simpa only [Tr.look, e1, if_true] using this⟩
        have hz : Hid (l.sz < (Tr.node n p k0 v l r).sz) := by show _ < 1 + l.sz + r.sz; omega
        clear h2 c2
        go_wp2
        go_roundg l.sz
        case measure => exact hz.out
        case rel => exact ⟨rfl, l, _, rfl, ⟨rfl, rfl⟩, hl⟩
      | false =>
        cases e2 : kl k0 k with
        | true =>
          have hl : Hid (TI w r ∧ fpI (r.look k) = X) := ⟨h2.out.1.2.2.2, by have := h2.out.2; simpa only [Tr.look, e1, e2, if_true, Bool.false_eq_true, if_false] using this⟩
          have hz : Hid (r.sz < (Tr.node n p k0 v l r).sz) := by show _ < 1 + l.sz + r.sz; omega
          have e3 := beq_ne (kl_ne e2).symm
          clear h2 c1 e2
          go_wp2
          go_roundg r.sz
          case measure => exact hz.out
          case rel => exact ⟨rfl, r, _, rfl, ⟨rfl, rfl⟩, hl⟩
        | false =>
          obtain rfl := kl_tri e1 e2
          have hx0 : fpI (some (p, k, v)) = X := by have := h2.out.2; simpa only [Tr.look, e1, Bool.false_eq_true, if_false] using this
          have hx : some (⟨p, 0, none⟩ : Addr) = X := hx0
          clear hx0
          clear h2 c1 c2 e2
          subst hx
          go_wp2
          go_ret
          exact ⟨rfl, rfl⟩

set_option maxHeartbeats 1000000 in
theorem firstI_any (n0 p0 : Nat) (k0 : ByteArray) (v0 : Int) (l0 r0 : Tr Int) (w : World) (h : TI w (.node n0 p0 k0 v0 l0 r0)) :
    Calls Try.prog 67 #[.pointer (some ⟨n0, 0, none⟩)] w fun e w' => ∃ p k v tl, e = .returned (.pointer (some ⟨p, 0, none⟩)) ∧ PI w p k v ∧ (Tr.node n0 p0 k0 v0 l0 r0).els = (k, v) :: tl ∧ w' = w := by
  obtain ⟨xs, hxs⟩ : ∃ xs, (Tr.node n0 p0 k0 v0 l0 r0).els = xs := ⟨_, rfl⟩
  rw [hxs]
  have H0 : Hid (TI w (.node n0 p0 k0 v0 l0 r0) ∧ ∃ B, xs = (Tr.node n0 p0 k0 v0 l0 r0).els ++ B) := ⟨h, [], by rw [hxs, List.append_nil]⟩
  clear hxs h
  go_enter Try.func67, Try.ntmps67
  go_wp2
  go_loopg [0] (Tr.node n0 p0 k0 v0 l0 r0).sz (fun g s wr => w = wr ∧ ∃ n p k v l r, s = .pointer (some ⟨n, 0, none⟩) ∧ Hid ((Tr.node n p k v l r : Tr Int).sz = g) ∧ Hid (TI wr (.node n p k v l r) ∧ ∃ B, xs = (Tr.node n p k v l r).els ++ B))
  case atStart => exact ⟨rfl, _, _, _, _, _, _, rfl, rfl, H0⟩
  case round =>
    obtain ⟨rfl, n, p, k, v, l, r, rfl, h1, h2⟩ := hrel
    clear H0
    obtain ⟨c0, c1, c2, _, d0⟩ := h2.out.1.cells
    cases l with
    | nil =>
      change w.cell? ⟨n, 1, none⟩ = some (.pointer none) at c1
      clear h1 c2 d0
      go_wp2
      go_ret
      obtain ⟨h3, B, hB⟩ := h2.out
      exact ⟨p, k, v, r.els ++ B, rfl, h3.2.1, by rw [hB, Tr.els, Tr.els]; rfl, rfl⟩
    | node n1 p1 k1 v1 l1 r1 =>
      change w.cell? ⟨n, 1, none⟩ = some (.pointer (some ⟨n1, 0, none⟩)) at c1
      have hz : Hid ((Tr.node n1 p1 k1 v1 l1 r1).sz < gk) := by
        have e : 1 + (Tr.node n1 p1 k1 v1 l1 r1).sz + r.sz = gk := h1.out
        show _ < _
        omega
      clear h1 c2 d0
      go_wp2
      go_roundg (Tr.node n1 p1 k1 v1 l1 r1).sz
      case measure => exact hz.out
      case rel =>
        obtain ⟨h3, B, hB⟩ := h2.out
        exact ⟨rfl, _, _, _, _, _, _, rfl, rfl, h3.2.2.1, _, by rw [hB, Tr.els, List.append_assoc]⟩
end Go.Proofs.Ytldmiieepikjnaa
