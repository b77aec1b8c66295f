/- table: without of a tree of ints. Laid by genTree.py out of tree6.src. Own work. -/
import Derived.Test.YtldmiieepikjnaaTbXI
set_option linter.unusedVariables false
set_option linter.unusedSimpArgs false
namespace Go.Proofs.Ytldmiieepikjnaa
open Go Go.RowKit

set_option maxHeartbeats 4000000 in
set_option maxRecDepth 20000 in
theorem withoutI_any (t : Tr Int) : ∀ (k : ByteArray) (u : Int) (w : World), TI w t → Srt t.els → getL k t.els = some u → t.els.length ≤ 1152921504606846975 →
    Calls Try.prog 49 #[.pointer t.ptr, .string k] w (QI w (delL k t.els)) := by
  induction t with
  | nil => intro k u w ht hs hg hb; cases hg
  | node n p0 k0 v0 l r ihl ihr =>
    intro k uu w ht hs hg hb
    have hs' := Srt.parts hs
    have hlen : l.els.length + r.els.length + 1 ≤ 1152921504606846975 := by simp only [Tr.els, List.length_append, List.length_cons] at hb; omega
    obtain ⟨c0, c1, c2, _, d0⟩ := ht.cells
    have sof : ∀ {w' : World}, Up w w' → w'.cell? ⟨n, 0, none⟩ = some (.pointer (some ⟨p0, 0, none⟩)) ∧ w'.cell? ⟨n, 1, none⟩ = some (.pointer l.ptr) ∧ w'.cell? ⟨n, 2, none⟩ = some (.pointer r.ptr) ∧
        w'.cell? ⟨p0, 0, none⟩ = some (.string k0) ∧ Up w w' := fun u =>
      ⟨(u.cell (World.block_lt_of_cell? w _ c0)).trans c0, (u.cell (World.block_lt_of_cell? w _ c1)).trans c1, (u.cell (World.block_lt_of_cell? w _ c2)).trans c2, (u.cell (World.block_lt_of_cell? w _ d0)).trans d0, u⟩
    change Calls _ _ #[.pointer (some ⟨n, 0, none⟩), _] _ _
    cases e1 : kl k k0 with
    | true =>
      have hgl : getL k l.els = some uu := by rw [← get_left hs e1]; exact hg
      have kW : ∀ {w' : World}, Up w w' → Calls Try.prog 49 #[.pointer l.ptr, .string k] w' (QI w (delL k l.els)) := fun {w'} u =>
        (ihl k uu w' (IsT.up ht.2.2.1 u) hs'.1 hgl (by omega)).mono fun e w'' h => h.from u
      have hpl := length_del hs'.1 hgl
      have kB : ∀ {w' : World} {t1 : Tr Int}, Up w w' → TI w' t1 → t1.els = delL k l.els →
          Calls Try.prog 64 #[.pointer (some ⟨p0, 0, none⟩), .pointer t1.ptr, .pointer r.ptr] w' (QI w (delL k (Tr.node n p0 k0 v0 l r).els)) := fun {w' t1} u h1 h2 =>
        (kBI ht.2.1 u h1 (IsT.up ht.2.2.2 u) (by rw [h2]; omega)).mono fun e w'' h => by rw [h2] at h; rw [Tr.els, del_left hs e1]; exact h.q
      clear ihl ihr hb hlen c0 c1 c2 d0 hs' hpl ht hs hg hgl
      obtain ⟨c0, c1, c2, d0, _⟩ := sof (Up.refl w)
      go_enter Try.func49, Try.ntmps49
      go_wp2
      have hs := sof (Up.drew w)
      clear c0 c1 c2 d0
      go_region_held3 (fun w' => w'.cell? ⟨n, 0, none⟩ = some (.pointer (some ⟨p0, 0, none⟩)) ∧ w'.cell? ⟨n, 1, none⟩ = some (.pointer l.ptr) ∧ w'.cell? ⟨n, 2, none⟩ = some (.pointer r.ptr) ∧
        w'.cell? ⟨p0, 0, none⟩ = some (.string k0) ∧ Up w w') (exact hs)
        (first
        | (go_at_call 49; refine (kW hs.2.2.2.2).mono ?_; clear kW hs; rintro e w1 ⟨x1, rfl, t1, y1, u1⟩; have hs := sof u1)
        | (go_at_call 64; refine (kB hs.2.2.2.2 t1 y1).mono ?_; clear kB hs; rintro e w2 ⟨z1, rfl, t2, y2, u2⟩; have hs := sof u2))
      go_wp2
      go_ret
      exact ⟨_, rfl, t2, y2, u2⟩
    | false =>
      cases e2 : kl k0 k with
      | true =>
        have e3 := beq_ne (kl_ne e2).symm
        have hgr : getL k r.els = some uu := by rw [← get_right hs e2]; exact hg
        have kW : ∀ {w' : World}, Up w w' → Calls Try.prog 49 #[.pointer r.ptr, .string k] w' (QI w (delL k r.els)) := fun {w'} u =>
          (ihr k uu w' (IsT.up ht.2.2.2 u) hs'.2.1 hgr (by omega)).mono fun e w'' h => h.from u
        have hpl := length_del hs'.2.1 hgr
        have kB : ∀ {w' : World} {t1 : Tr Int}, Up w w' → TI w' t1 → t1.els = delL k r.els →
            Calls Try.prog 64 #[.pointer (some ⟨p0, 0, none⟩), .pointer l.ptr, .pointer t1.ptr] w' (QI w (delL k (Tr.node n p0 k0 v0 l r).els)) := fun {w' t1} u h1 h2 =>
          (kBI ht.2.1 u (IsT.up ht.2.2.1 u) h1 (by rw [h2]; omega)).mono fun e w'' h => by rw [h2] at h; rw [Tr.els, del_right hs e2]; exact h.q
        clear ihl ihr hb hlen c0 c1 c2 d0 hs' hpl ht hs hg hgr e2
        obtain ⟨c0, c1, c2, d0, _⟩ := sof (Up.refl w)
        go_enter Try.func49, Try.ntmps49
        go_wp2
        have hs := sof (Up.drew w)
        clear c0 c1 c2 d0
        go_region_held3 (fun w' => w'.cell? ⟨n, 0, none⟩ = some (.pointer (some ⟨p0, 0, none⟩)) ∧ w'.cell? ⟨n, 1, none⟩ = some (.pointer l.ptr) ∧ w'.cell? ⟨n, 2, none⟩ = some (.pointer r.ptr) ∧
          w'.cell? ⟨p0, 0, none⟩ = some (.string k0) ∧ Up w w') (exact hs)
          (first
          | (go_at_call 49; refine (kW hs.2.2.2.2).mono ?_; clear kW hs; rintro e w1 ⟨x1, rfl, t1, y1, u1⟩; have hs := sof u1)
          | (go_at_call 64; refine (kB hs.2.2.2.2 t1 y1).mono ?_; clear kB hs; rintro e w2 ⟨z1, rfl, t2, y2, u2⟩; have hs := sof u2))
        go_wp2
        go_ret
        exact ⟨_, rfl, t2, y2, u2⟩
      | false =>
        obtain rfl := kl_tri e1 e2
        have hdel : delL k (Tr.node n p0 k v0 l r).els = l.els ++ r.els := by rw [Tr.els, del_here hs]
        rw [hdel]
        cases r with
        | nil =>
          have fin : QI w (l.els ++ (Tr.nil : Tr Int).els) (.returned (.pointer l.ptr)) w := ⟨l, rfl, ht.2.2.1, by rw [Tr.els, List.append_nil], Up.refl w⟩
          change w.cell? ⟨n, 2, none⟩ = some (.pointer none) at c2
          clear ihl ihr hb hlen hs' ht hs e2 sof hdel hg
          go_enter Try.func49, Try.ntmps49
          go_wp2
          go_ret
          exact fin
        | node n2 p2 k2 v2 l2 r2 =>
          have kF := firstI_any n2 p2 k2 v2 l2 r2 w ht.2.2.2
          obtain ⟨rs, hrs⟩ : ∃ rs, (Tr.node n2 p2 k2 v2 l2 r2).els = rs := ⟨_, rfl⟩
          rw [hrs] at kF hs' hlen ihr ⊢
          have kW : ∀ {w' : World} {kk : ByteArray} {vv : Int} {tl : List (KV Int)}, rs = (kk, vv) :: tl → Up w w' → Calls Try.prog 49 #[.pointer (some ⟨n2, 0, none⟩), .string kk] w' (QI w tl) := fun {w' kk vv tl} he u => by
            have h1 : Srt ([] ++ (kk, vv) :: tl) := by rw [List.nil_append, ← he]; exact hs'.2.1
            have := ihr kk vv w' (IsT.up ht.2.2.2 u) hs'.2.1 (by rw [he]; exact getL_split h1) (by omega)
            rw [he, show delL kk ((kk, vv) :: tl) = tl from del_here h1] at this
            exact this.mono fun e w'' h => h.from u
          have kB : ∀ {w' : World} {t1 : Tr Int} {pp : Nat} {kk : ByteArray} {vv : Int} {tl : List (KV Int)}, rs = (kk, vv) :: tl → PI w pp kk vv → Up w w' → TI w' t1 → t1.els = tl →
              Calls Try.prog 64 #[.pointer (some ⟨pp, 0, none⟩), .pointer l.ptr, .pointer t1.ptr] w' (QI w (l.els ++ rs)) := fun {w' t1 pp kk vv tl} he hp u h1 h2 =>
            (kBI hp u (IsT.up ht.2.2.1 u) h1 (by rw [h2]; rw [he] at hlen; simp only [List.length_cons] at hlen; omega)).mono fun e w'' h => by rw [h2, ← he] at h; exact h.q
          change w.cell? ⟨n, 2, none⟩ = some (.pointer (some ⟨n2, 0, none⟩)) at c2
          have hs0 := sof (Up.refl w)
          clear ihl ihr hb hlen hs' ht hs e2 hdel hg hrs
          replace sof : ∀ {w' : World} {pp : Nat} {kk : ByteArray}, w.cell? ⟨pp, 0, none⟩ = some (.string kk) → Up w w' → w'.cell? ⟨n, 1, none⟩ = some (.pointer l.ptr) ∧ w'.cell? ⟨n, 2, none⟩ = some (.pointer (some ⟨n2, 0, none⟩)) ∧ w'.cell? ⟨pp, 0, none⟩ = some (.string kk) ∧ Up w w' := fun f0 u =>
            ⟨(sof u).2.1, (sof u).2.2.1, (u.cell (World.block_lt_of_cell? w _ f0)).trans f0, u⟩
          clear hs0
          go_enter Try.func49, Try.ntmps49
          go_wp2_with fail
          refine kF.mono ?_
          clear kF
          rintro e w1 ⟨pp, kk, vv, tl, rfl, hp, he, hw⟩
          obtain rfl : w = w1 := hw.symm
          have f0 : w.cell? ⟨pp, 0, none⟩ = some (.string kk) := by rw [cell_of_row _ _ _ _ _ _ hp]; rfl
          replace kW := @kW
          have kW' := fun {w' : World} (u : Up w w') => kW he u
          have kB' := fun {w' : World} {t1 : Tr Int} (u : Up w w') (h1 : TI w' t1) (h2 : t1.els = tl) => kB he hp u h1 h2
          have hs := sof f0 (Up.drew w)
          clear kW kB hp he c0 c1 c2 d0
          go_wp2_with fail
          go_region_held3 (fun w' => w'.cell? ⟨n, 1, none⟩ = some (.pointer l.ptr) ∧ w'.cell? ⟨n, 2, none⟩ = some (.pointer (some ⟨n2, 0, none⟩)) ∧ w'.cell? ⟨pp, 0, none⟩ = some (.string kk) ∧ Up w w') (exact hs)
            (first
            | (go_at_call 49; refine (kW' hs.2.2.2).mono ?_; clear kW' hs; rintro e w1 ⟨x1, rfl, t1, y1, u1⟩; have hs := sof f0 u1)
            | (go_at_call 64; refine (kB' hs.2.2.2 t1 y1).mono ?_; clear kB' hs; rintro e w2 ⟨z1, rfl, t2, y2, u2⟩; have hs := sof f0 u2))
          go_wp2
          go_ret
          exact ⟨_, rfl, t2, y2, u2⟩
end Go.Proofs.Ytldmiieepikjnaa
