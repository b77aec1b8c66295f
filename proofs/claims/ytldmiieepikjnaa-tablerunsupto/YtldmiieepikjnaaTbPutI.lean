/- table: Put and Delete of a table of ints. Laid by genTree.py out of tree8.src. Own work. -/
import Derived.Test.YtldmiieepikjnaaTbZI
import Derived.Deep.DeepCutAuto
set_option linter.unusedVariables false
set_option linter.unusedSimpArgs false
namespace Go.Proofs.Ytldmiieepikjnaa
open Go Go.RowKit

theorem cells3fI {w w1 : World} {b : Nat} {a c d : Value} {T : TypeId} (h : w.heap[b]? = some (.cells #[a, c, d] T (0, 0))) (u : Up w w1) :
    w1.cell? ⟨b, 0, none⟩ = some a ∧ w1.cell? ⟨b, 1, none⟩ = some c ∧ w1.cell? ⟨b, 2, none⟩ = some d ∧ w1.frozen? ⟨b, 1, none⟩ = false ∧ w1.frozen? ⟨b, 2, none⟩ = false := cells3 ((u.block b (Array.getElem?_eq_some_iff.1 h).1).trans h)

/-- The table behind a store of its root. -/
theorem TabI.rooted {w w1 : World} {b : Nat} {a c d : Value} {t : Tr Int} (h : w.heap[b]? = some (.cells #[a, c, d] 80 (0, 0))) (u : Up w w1) (ht : TI w1 t) :
    (w1.setCell ⟨b, 2, none⟩ (.pointer t.ptr)).heap[b]? = some (.cells #[a, c, .pointer t.ptr] 80 (0, 0)) ∧ TI (w1.setCell ⟨b, 2, none⟩ (.pointer t.ptr)) t ∧ Touch w (w1.setCell ⟨b, 2, none⟩ (.pointer t.ptr)) [b] := by
  have h1 := (u.block b (Array.getElem?_eq_some_iff.1 h).1).trans h
  refine ⟨heap_setCell_same _ _ _ _ _ _ h1, IsT.still ⟨fun n cs T hT hn => heap_setCell_other _ ⟨b, 2, none⟩ _ _ ?_⟩ ht, (Touch.of_up u _).setCell (.inl (by simp)) _ _⟩
  rintro rfl
  rw [h1] at hn
  simp at hn
  rcases hT with rfl | rfl <;> simp at hn
theorem TabI.counted {w w1 : World} {b : Nat} {a c c' d : Value} {t : Tr Int} (h : w1.heap[b]? = some (.cells #[a, c, d] 80 (0, 0)) ∧ TI w1 t ∧ Touch w w1 [b]) :
    (w1.setCell ⟨b, 1, none⟩ c').heap[b]? = some (.cells #[a, c', d] 80 (0, 0)) ∧ TI (w1.setCell ⟨b, 1, none⟩ c') t ∧ Touch w (w1.setCell ⟨b, 1, none⟩ c') [b] := by
  obtain ⟨h1, h2, h3⟩ := h
  refine ⟨heap_setCell_same _ _ _ _ _ _ h1, IsT.still ⟨fun n cs T hT hn => heap_setCell_other _ ⟨b, 1, none⟩ _ _ ?_⟩ h2, h3.setCell (.inl (by simp)) _ _⟩
  rintro rfl
  rw [h1] at hn
  simp at hn
  rcases hT with rfl | rfl <;> simp at hn

/-- Whether a Put is taken. -/
def took (lim : Int) (k : ByteArray) {α : Type} (xs : List (KV α)) : Bool := (getL k xs).isSome || decide ((xs.length : Int) < lim)
def putT (lim : Int) (k : ByteArray) {α : Type} (v : α) (xs : List (KV α)) : List (KV α) := if took lim k xs then putL k v xs else xs

set_option maxHeartbeats 4000000 in
set_option maxRecDepth 20000 in
theorem PutI_any (k : ByteArray) (v : Int) (b : Nat) (lim : Int) (xs : List (KV Int)) (w : World) (h : TabI w b lim xs) (hk : k.size ≤ 281474976710656) (hb : xs.length ≤ 1152921504606846975) :
    Calls Try.prog 12 #[.pointer (some ⟨b, 0, none⟩), .string k, VI v] w fun e w' => e = .returned (.bool (took lim k xs)) ∧ TabI w' b lim (putT lim k v xs) ∧ Touch w w' [b] := by
  obtain ⟨t, h1, h2, rfl, h4⟩ := h
  obtain ⟨c0, c1, c2, f1, f2⟩ := cells3 h1
  have q := findI_any t k w h2
  have hlk := look_get t k h4
  have kW : ∀ (n : Nat) (W : World), PI W n k v → Up w W → Calls Try.prog 45 #[.pointer t.ptr, .pointer (some ⟨n, 0, none⟩)] W (RI w (putL k v t.els)) := fun n W hp u =>
    (withI_any n k v t W hp (IsT.up h2 u) h4 hb).mono fun e w'' h => h.from u
  cases hx : t.look k with
  | some x =>
    obtain ⟨p, k0, v0⟩ := x
    have hp := IsT.look h2 hx
    obtain rfl : k0 = k := look_key t k hx
    rw [hx] at q hlk
    have hgs : getL k0 t.els = some v0 := hlk.symm
    have htk : took lim k0 t.els = true := by rw [took, hgs]; rfl
    have hlen : (putL k0 v t.els).length = t.els.length := by rw [length_put h4, hgs]; rfl
    rw [putT, htk, if_pos rfl]
    change Calls _ _ _ _ fun e w' => e = .returned (.pointer (some ⟨p, 0, none⟩)) ∧ w' = w at q
    have d0 : w.cell? ⟨p, 0, none⟩ = some (.string k0) := by rw [cell_of_row _ _ _ _ _ _ hp]; rfl
    have fin : ∀ {w1 : World} {t' : Tr Int}, TI w1 t' → t'.els = putL k0 v t.els → Up w w1 → TabI (w1.setCell ⟨b, 2, none⟩ (.pointer t'.ptr)) b lim (putL k0 v t.els) ∧ Touch w (w1.setCell ⟨b, 2, none⟩ (.pointer t'.ptr)) [b] := fun {w1 t'} g1 g2 g3 =>
      have r := TabI.rooted h1 g3 g1
      ⟨⟨t', by rw [hlen]; exact r.1, r.2.1, g2, srt_put h4 _ _⟩, r.2.2⟩
    have kW' := kW w.heap.size (w.alloc (.cells #[.string k0, .int .i64 v] 88)).drew (heap_alloc_new w _) (up_al (Up.refl w))
    clear h2 h4 hlk hx hp hb hgs htk hlen hk kW
    have hst : ∀ {w1 : World}, Up w w1 → w1.cell? ⟨b, 2, none⟩ = some (.pointer t.ptr) ∧ w1.frozen? ⟨b, 2, none⟩ = false := fun u => ⟨(cells3fI h1 u).2.2.1, (cells3fI h1 u).2.2.2.2⟩
    have za := (hst (Up.alloc w (.cells #[.string k0, .int .i64 v] 88))).1
    clear h1 c0 c1 f1 f2
    go_enter Try.func12, Try.ntmps12
    go_wp2_with (go_at_call 44; refine q.mono ?_; clear q; rintro e w1 ⟨rfl, hw⟩; obtain rfl : w = w1 := hw.symm)
    go_region_with (go_at_call 45; refine kW'.mono ?_; rintro e w1 ⟨x1, x2, x3, x4, x5, x6, rfl, t1, y1, u1⟩; obtain ⟨g1, g2⟩ := hst u1)
    all_goals (go_wp2; go_ret; exact ⟨rfl, fin t1 y1 u1⟩)
  | none =>
    rw [hx] at q hlk
    have hgs : getL k t.els = none := hlk.symm
    have hlen : (putL k v t.els).length = t.els.length + 1 := by rw [length_put h4, hgs]; rfl
    change Calls _ _ _ _ fun e w' => e = .returned (.pointer none) ∧ w' = w at q
    by_cases hlt : (t.els.length : Int) < lim
    · have htk : took lim k t.els = true := by rw [took, hgs, decide_eq_true hlt]; rfl
      rw [putT, htk, if_pos rfl]
      have hst : ∀ {w1 : World}, Up w w1 → w1.cell? ⟨b, 1, none⟩ = some (.int .i64 (t.els.length : Int)) ∧ w1.frozen? ⟨b, 1, none⟩ = false ∧ w1.cell? ⟨b, 2, none⟩ = some (.pointer t.ptr) ∧ w1.frozen? ⟨b, 2, none⟩ = false := fun u => ⟨(cells3fI h1 u).2.1, (cells3fI h1 u).2.2.2.1, (cells3fI h1 u).2.2.1, (cells3fI h1 u).2.2.2.2⟩
      obtain ⟨N, hN⟩ : ∃ N, t.els.length = N := ⟨_, rfl⟩
      rw [hN] at hlt hb hlen c1 h1 hst
      have hwr : IntKind.i64.wrap ((N : Int) + 1) = ((N + 1 : Nat) : Int) := by rw [IntKind.wrap_i64]; omega
      have hNb : (N : Int) ≤ 1152921504606846975 := by omega
      have fin : ∀ {w1 : World} {t' : Tr Int}, TI w1 t' → t'.els = putL k v t.els → Up w w1 → TabI ((w1.setCell ⟨b, 2, none⟩ (.pointer t'.ptr)).setCell ⟨b, 1, none⟩ (.int .i64 ((N + 1 : Nat) : Int))) b lim (putL k v t.els) ∧ Touch w ((w1.setCell ⟨b, 2, none⟩ (.pointer t'.ptr)).setCell ⟨b, 1, none⟩ (.int .i64 ((N + 1 : Nat) : Int))) [b] := fun {w1 t'} g1 g2 g3 =>
        have r := TabI.counted (c' := .int .i64 ((N + 1 : Nat) : Int)) (TabI.rooted h1 g3 g1)
        ⟨⟨t', by rw [hlen]; exact r.1, r.2.1, g2, srt_put h4 _ _⟩, r.2.2⟩
      have qc : ∀ (W : World), Calls Try.prog 46 #[.string k] W fun e w' => e = .returned (.string k) ∧ Up W w' := fun W => sclone_any k W hk
      clear h2 h4 hlk hx hb hgs htk hlen hk
      clear h1 f1 f2
      go_enter Try.func12, Try.ntmps12
      go_wp2_with (go_at_call 44; refine q.mono ?_; clear q; rintro e w1 ⟨rfl, hw⟩; obtain rfl : w = w1 := hw.symm)
      go_quiet (fail)
      clear c0 c1 c2
      have u0 := up_drewN w nq
      generalize w.drewN nq = w0 at u0 ⊢
      obtain ⟨g1, g2, g3, g4⟩ := hst u0
      go_wp2_with fail
      go_cut [6] (fun s6 wx => ∃ (t' : Tr Int) (w1 : World), wx = w1.setCell ⟨b, 2, none⟩ (.pointer t'.ptr) ∧ Hid (TI w1 t' ∧ t'.els = putL k v t.els ∧ Up w w1))
      case first =>
        go_region_with (first
          | (go_at_call 46; refine (qc _).mono ?_; rintro e w1 ⟨rfl, u1⟩; have u2 := (u0.trans (Up.drew w0)).trans u1; obtain ⟨_, _, z3, z4⟩ := hst u2; have za := (hst (u2.trans (Up.alloc w1 (.cells #[.string k, .int .i64 v] 88)))).2.2.1; have kW' := kW w1.heap.size (w1.alloc (.cells #[.string k, .int .i64 v] 88)) (heap_alloc_new w1 _) (u2.trans (Up.alloc _ _)))
          | (go_at_call 45; refine kW'.mono ?_; rintro e w2 ⟨x1, x2, x3, x4, x5, x6, rfl, t1, y1, u3⟩; obtain ⟨z1, z2, z3, z4⟩ := hst u3))
        all_goals (go_wp2_with fail; go_meet; case rel => exact ⟨.node x1 x2 x3 x4 x5 x6, w2, rfl, t1, y1, u3⟩)
      case rest =>
        obtain ⟨t', w1, rfl, H⟩ := hcut
        clear kW qc g1 g2 g3 g4 u0
        obtain ⟨z1, z2, _, _⟩ := hst H.out.2.2
        have hx1 : (w1.setCell ⟨b, 2, none⟩ (.pointer t'.ptr)).cell? ⟨b, 1, none⟩ = some (.int .i64 (N : Int)) := (World.cell?_setCell_other _ _ _ _ (by simp)).trans z1
        go_wp2
        go_ret
        have r := fin H.out.1 H.out.2.1 H.out.2.2
        exact ⟨rfl, r⟩
    · have htk : took lim k t.els = false := by rw [took, hgs, decide_eq_false hlt]; rfl
      have fin : ∀ {w1 : World}, Up w w1 → TabI w1 b lim t.els ∧ Touch w w1 [b] := fun u => ⟨TabI.up ⟨t, h1, h2, rfl, h4⟩ u, Touch.of_up u _⟩
      rw [putT, htk, if_neg (by simp)]
      obtain ⟨N, hN⟩ : ∃ N, t.els.length = N := ⟨_, rfl⟩
      rw [hN] at hlt c1
      clear h2 h4 hlk hx hb hgs htk hlen hk hN kW
      clear h1 f1 f2
      have hge : lim ≤ (N : Int) := by omega
      go_enter Try.func12, Try.ntmps12
      go_wp2_with (go_at_call 44; refine q.mono ?_; clear q; rintro e w1 ⟨rfl, hw⟩; obtain rfl : w = w1 := hw.symm)
      go_quiet (fail)
      go_wp2
      go_ret
      exact ⟨rfl, fin (up_drewN _ _)⟩
end Go.Proofs.Ytldmiieepikjnaa
