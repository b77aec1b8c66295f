/- table: with and without of a tree of ints. Laid by genTree.py out of tree5.src. Own work. -/
import Derived.Test.YtldmiieepikjnaaTbWI
set_option linter.unusedVariables false
set_option linter.unusedSimpArgs false
namespace Go.Proofs.Ytldmiieepikjnaa
open Go Go.RowKit

/-- What a call answers that may leave nothing: a tree whose pairs are these. -/
def QI (w : World) (xs : List (KV Int)) (e : Ending) (w' : World) : Prop := ∃ t', e = .returned (.pointer t'.ptr) ∧ TI w' t' ∧ t'.els = xs ∧ Up w w'
theorem RI.q {w w' : World} {xs : List (KV Int)} {e : Ending} (h : RI w xs e w') : QI w xs e w' := by
  obtain ⟨n, p, k, v, l, r, he, ht, hx, hu⟩ := h
  exact ⟨.node n p k v l r, he, ht, hx, hu⟩
theorem RI.from {w w1 w' : World} {xs : List (KV Int)} {e : Ending} (h : RI w1 xs e w') (u : Up w w1) : RI w xs e w' := by
  obtain ⟨n, p, k, v, l, r, he, ht, hx, hu⟩ := h
  exact ⟨n, p, k, v, l, r, he, ht, hx, u.trans hu⟩
theorem QI.from {w w1 w' : World} {xs : List (KV Int)} {e : Ending} (h : QI w1 xs e w') (u : Up w w1) : QI w xs e w' := by
  obtain ⟨t, he, ht, hx, hu⟩ := h
  exact ⟨t, he, ht, hx, u.trans hu⟩
theorem p_upI {w w' : World} {p : Nat} {k : ByteArray} {v : Int} (h : PI w p k v) (u : Up w w') : PI w' p k v := (u.block p (Array.getElem?_eq_some_iff.1 h).1).trans h
/-- balanced in whatever world behind w. -/
theorem kBI {p : Nat} {k : ByteArray} {v : Int} {l r : Tr Int} {w w' : World} (hp : PI w p k v) (u : Up w w') (hl : TI w' l) (hr : TI w' r) (hb : l.els.length + r.els.length ≤ 1152921504606846976) :
    Calls Try.prog 64 #[.pointer (some ⟨p, 0, none⟩), .pointer l.ptr, .pointer r.ptr] w' (RI w (l.els ++ (k, v) :: r.els)) :=
  (balI_any p k v l r w' (p_upI hp u) hl hr hb).mono fun e w'' h => h.from u

set_option maxHeartbeats 4000000 in
set_option maxRecDepth 20000 in
theorem withI_any (p : Nat) (k : ByteArray) (v : Int) (t : Tr Int) : ∀ (w : World), PI w p k v → TI w t → Srt t.els → t.els.length ≤ 1152921504606846975 →
    Calls Try.prog 45 #[.pointer t.ptr, .pointer (some ⟨p, 0, none⟩)] w (RI w (putL k v t.els)) := by
  induction t with
  | nil =>
    intro w hp ht hs hb
    have q := kOI (l := .nil) (r := .nil) hp (Up.refl w) trivial trivial (by simp [Tr.els])
    change Calls _ _ #[.pointer none, _] _ _
    change Calls _ _ #[_, .pointer none, .pointer none] _ _ at q
    clear hp ht hs hb
    go_enter Try.func45, Try.ntmps45
    go_wp2_with (go_at_call 63; refine q.mono ?_; clear q; rintro e w2 ⟨m, rfl, t2, u2⟩)
    go_ret
    exact ⟨_, _, _, _, _, _, rfl, t2, rfl, u2⟩
  | node n p0 k0 v0 l r ihl ihr =>
    intro w hp ht hs hb
    have hs' := Srt.parts hs
    have hlen : l.els.length + r.els.length + 1 ≤ 1152921504606846975 := by simp only [Tr.els, List.length_append, List.length_cons] at hb; omega
    obtain ⟨c0, c1, c2, _, d0⟩ := ht.cells
    have e0 : w.cell? ⟨p, 0, none⟩ = some (.string k) := by rw [cell_of_row _ _ _ _ _ _ hp]; rfl
    have sof : ∀ {w' : World}, Up w w' → w'.cell? ⟨n, 0, none⟩ = some (.pointer (some ⟨p0, 0, none⟩)) ∧ w'.cell? ⟨n, 1, none⟩ = some (.pointer l.ptr) ∧ w'.cell? ⟨n, 2, none⟩ = some (.pointer r.ptr) ∧
        w'.cell? ⟨p0, 0, none⟩ = some (.string k0) ∧ w'.cell? ⟨p, 0, none⟩ = some (.string k) ∧ Up w w' := fun u =>
      ⟨(u.cell (World.block_lt_of_cell? w _ c0)).trans c0, (u.cell (World.block_lt_of_cell? w _ c1)).trans c1, (u.cell (World.block_lt_of_cell? w _ c2)).trans c2, (u.cell (World.block_lt_of_cell? w _ d0)).trans d0, (u.cell (World.block_lt_of_cell? w _ e0)).trans e0, u⟩
    change Calls _ _ #[.pointer (some ⟨n, 0, none⟩), _] _ _
    cases e1 : kl k k0 with
    | true =>
      have kW : ∀ {w' : World}, Up w w' → Calls Try.prog 45 #[.pointer l.ptr, .pointer (some ⟨p, 0, none⟩)] w' (RI w (putL k v l.els)) := fun {w'} u =>
        (ihl w' (p_upI hp u) (IsT.up ht.2.2.1 u) hs'.1 (by omega)).mono fun e w'' h => h.from u
      have hpl := length_put hs'.1 k v
      have kB : ∀ {w' : World} {a b : Nat} {c : ByteArray} {d : Int} {f g : Tr Int}, Up w w' → TI w' (.node a b c d f g) → (Tr.node a b c d f g).els = putL k v l.els →
          Calls Try.prog 64 #[.pointer (some ⟨p0, 0, none⟩), .pointer (some ⟨a, 0, none⟩), .pointer r.ptr] w' (RI w (putL k v (Tr.node n p0 k0 v0 l r).els)) := fun {w' a b c d f g} u h1 h2 =>
        (kBI (l := .node a b c d f g) ht.2.1 u h1 (IsT.up ht.2.2.2 u) (by rw [h2, hpl]; split <;> omega)).mono fun e w'' h => by rw [h2] at h; rw [Tr.els, put_left hs e1]; exact h
      have hs0 := sof (Up.refl w)
      clear ihl ihr hb hlen c0 c1 c2 d0 e0 hs' hpl hp ht hs
      obtain ⟨c0, c1, c2, d0, e0, _⟩ := hs0
      go_enter Try.func45, Try.ntmps45
      go_wp2
      go_quiet (fail)
      clear c0 c1 c2 d0 e0
      have u0 := up_drewN w nq
      generalize w.drewN nq = w0 at u0 ⊢
      obtain ⟨c0, c1, c2, d0, e0, _⟩ := sof u0
      go_wp2
      have hs := sof (u0.trans (Up.drew w0))
      clear c0 c1 c2 d0 e0
      go_region_held3 (fun w' => w'.cell? ⟨n, 0, none⟩ = some (.pointer (some ⟨p0, 0, none⟩)) ∧ w'.cell? ⟨n, 1, none⟩ = some (.pointer l.ptr) ∧ w'.cell? ⟨n, 2, none⟩ = some (.pointer r.ptr) ∧
        w'.cell? ⟨p0, 0, none⟩ = some (.string k0) ∧ w'.cell? ⟨p, 0, none⟩ = some (.string k) ∧ Up w w') (exact hs)
        (first
        | (go_at_call 45; refine (kW hs.2.2.2.2.2).mono ?_; clear kW hs; rintro e w1 ⟨x1, x2, x3, x4, x5, x6, rfl, t1, y1, u1⟩; have hs := sof u1)
        | (go_at_call 64; refine (kB hs.2.2.2.2.2 t1 y1).mono ?_; clear kB hs; rintro e w2 ⟨z1, z2, z3, z4, z5, z6, rfl, t2, y2, u2⟩; have hs := sof u2))
      go_wp2
      go_ret
      exact ⟨_, _, _, _, _, _, rfl, t2, y2, u2⟩
    | false =>
      cases e2 : kl k0 k with
      | true =>
        have e3 := beq_ne (kl_ne e2).symm
        have kW : ∀ {w' : World}, Up w w' → Calls Try.prog 45 #[.pointer r.ptr, .pointer (some ⟨p, 0, none⟩)] w' (RI w (putL k v r.els)) := fun {w'} u =>
          (ihr w' (p_upI hp u) (IsT.up ht.2.2.2 u) hs'.2.1 (by omega)).mono fun e w'' h => h.from u
        have hpl := length_put hs'.2.1 k v
        have kB : ∀ {w' : World} {a b : Nat} {c : ByteArray} {d : Int} {f g : Tr Int}, Up w w' → TI w' (.node a b c d f g) → (Tr.node a b c d f g).els = putL k v r.els →
            Calls Try.prog 64 #[.pointer (some ⟨p0, 0, none⟩), .pointer l.ptr, .pointer (some ⟨a, 0, none⟩)] w' (RI w (putL k v (Tr.node n p0 k0 v0 l r).els)) := fun {w' a b c d f g} u h1 h2 =>
          (kBI (r := .node a b c d f g) ht.2.1 u (IsT.up ht.2.2.1 u) h1 (by rw [h2, hpl]; split <;> omega)).mono fun e w'' h => by rw [h2] at h; rw [Tr.els, put_right hs e2]; exact h
        have hs0 := sof (Up.refl w)
        clear ihl ihr hb hlen c0 c1 c2 d0 e0 hs' hpl hp ht hs e2
        obtain ⟨c0, c1, c2, d0, e0, _⟩ := hs0
        go_enter Try.func45, Try.ntmps45
        go_wp2
        go_quiet (fail)
        clear c0 c1 c2 d0 e0
        have u0 := up_drewN w nq
        generalize w.drewN nq = w0 at u0 ⊢
        obtain ⟨c0, c1, c2, d0, e0, _⟩ := sof u0
        go_wp2
        go_quiet (fail)
        clear c0 c1 c2 d0 e0
        replace u0 := u0.trans (up_drewN w0 nq)
        generalize w0.drewN nq = w0' at u0 ⊢
        obtain ⟨c0, c1, c2, d0, e0, _⟩ := sof u0
        go_wp2
        have hs := sof (u0.trans (Up.drew w0'))
        clear c0 c1 c2 d0 e0
        go_region_held3 (fun w' => w'.cell? ⟨n, 0, none⟩ = some (.pointer (some ⟨p0, 0, none⟩)) ∧ w'.cell? ⟨n, 1, none⟩ = some (.pointer l.ptr) ∧ w'.cell? ⟨n, 2, none⟩ = some (.pointer r.ptr) ∧
          w'.cell? ⟨p0, 0, none⟩ = some (.string k0) ∧ w'.cell? ⟨p, 0, none⟩ = some (.string k) ∧ Up w w') (exact hs)
          (first
          | (go_at_call 45; refine (kW hs.2.2.2.2.2).mono ?_; clear kW hs; rintro e w1 ⟨x1, x2, x3, x4, x5, x6, rfl, t1, y1, u1⟩; have hs := sof u1)
          | (go_at_call 64; refine (kB hs.2.2.2.2.2 t1 y1).mono ?_; clear kB hs; rintro e w2 ⟨z1, z2, z3, z4, z5, z6, rfl, t2, y2, u2⟩; have hs := sof u2))
        go_wp2
        go_ret
        exact ⟨_, _, _, _, _, _, rfl, t2, y2, u2⟩
      | false =>
        obtain rfl := kl_tri e1 e2
        have kQ : ∀ {w' : World}, Up w w' → Calls Try.prog 63 #[.pointer (some ⟨p, 0, none⟩), .pointer l.ptr, .pointer r.ptr] w' fun e w'' => ∃ m, e = .returned (.pointer (some ⟨m, 0, none⟩)) ∧ TI w'' (.node m p k v l r) ∧ Up w w'' := fun {w'} u =>
          kOI hp u (IsT.up ht.2.2.1 u) (IsT.up ht.2.2.2 u) (by omega)
        have fin : ∀ m, (Tr.node m p k v l r).els = putL k v (Tr.node n p0 k v0 l r).els := fun m => by rw [Tr.els, Tr.els, put_here hs]
        have hs0 := sof (Up.refl w)
        clear ihl ihr hb hlen c0 c1 c2 d0 e0 hs' hp ht hs e2
        obtain ⟨c0, c1, c2, d0, e0, _⟩ := hs0
        go_enter Try.func45, Try.ntmps45
        go_wp2
        go_quiet (fail)
        clear c0 c1 c2 d0 e0
        have u0 := up_drewN w nq
        generalize w.drewN nq = w0 at u0 ⊢
        obtain ⟨c0, c1, c2, d0, e0, _⟩ := sof u0
        go_wp2
        go_quiet (fail)
        clear c0 c1 c2 d0 e0
        replace u0 := u0.trans (up_drewN w0 nq)
        generalize w0.drewN nq = w0' at u0 ⊢
        obtain ⟨c0, c1, c2, d0, e0, _⟩ := sof u0
        go_wp2
        have hs := sof (u0.trans (Up.drew w0'))
        clear c0 c1 c2 d0 e0
        go_region_held3 (fun w' => w'.cell? ⟨n, 0, none⟩ = some (.pointer (some ⟨p0, 0, none⟩)) ∧ w'.cell? ⟨n, 1, none⟩ = some (.pointer l.ptr) ∧ w'.cell? ⟨n, 2, none⟩ = some (.pointer r.ptr) ∧
          w'.cell? ⟨p0, 0, none⟩ = some (.string k) ∧ w'.cell? ⟨p, 0, none⟩ = some (.string k) ∧ Up w w') (exact hs)
          (first
          | (go_at_call 63; refine (kQ hs.2.2.2.2.2).mono ?_; clear kQ hs; rintro e w1 ⟨m, rfl, t1, u1⟩; have hs := sof u1))
        go_wp2
        go_ret
        exact ⟨_, _, _, _, _, _, rfl, t1, fin m, u1⟩
end Go.Proofs.Ytldmiieepikjnaa
