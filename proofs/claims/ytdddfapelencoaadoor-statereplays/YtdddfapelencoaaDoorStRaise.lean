/- state: raise (laid by genRaise.py). Own work. -/
import Derived.Test.YtdddfapelencoaaDoorStCopy
import Derived.Test.YtdddfapelencoaaDoorPlAny
import Derived.Test.YtdddfapelencoaaDoorHeldTo
set_option linter.unusedVariables false
set_option linter.unusedSimpArgs false
namespace Go.Proofs.YtdddfapelencoaaDoor
open Go Go.RowKit

theorem EntAt.up {w w' : World} {b o : Nat} {x : Ent} (h : EntAt w b o x) (u : Up w w') : EntAt w' b o x := by
  have hl : b < w.heap.size := World.block_lt_of_cell? w _ h.1
  have k : ∀ j v, w.cell? ⟨b, j, none⟩ = some v → w'.cell? ⟨b, j, none⟩ = some v := fun j v e => (u.cell hl).trans e
  obtain ⟨c0, c1, c2, c3, c4, c5, c6, c7, c8⟩ := h
  exact ⟨k _ _ c0, k _ _ c1, k _ _ c2, k _ _ c3, k _ _ c4, k _ _ c5, k _ _ c6, k _ _ c7, k _ _ c8⟩

set_option maxRecDepth 20000 in
set_option maxHeartbeats 1600000 in
theorem raise_unfit (g o : Nat) (S : ByteArray) (pk : Int) (pg ps pq pp lt li lc ct ci cc : Nat) (w : World) (ha : EntAt w g o (S, ⟨pk, pg, ps, pq, pp⟩, ⟨lt, li, lc⟩)) (hF : ∀ u, Calls Tryd.prog 25 #[Pv pk pg ps pq pp, Lv ct ci cc] u fun e w' => e = .returned (.bool false) ∧ Up u w') :
    Calls Tryd.prog 66 #[.pointer (some ⟨g, o, none⟩), Lv ct ci cc] w fun e w' => e = .returned (.bool false) ∧ Up w w' := by
  have HA : Hid (EntAt w g o (S, ⟨pk, pg, ps, pq, pp⟩, ⟨lt, li, lc⟩)) := ha
  have b0 : Box (w.alloc (.cells #[V ct, V ci, V cc] 37)) w.heap.size #[V ct, V ci, V cc] := Box.new _ _ _
  have u0 : Up w (w.alloc (.cells #[V ct, V ci, V cc] 37)) := Up.alloc _ _
  obtain ⟨B, hB⟩ : ∃ B, w.heap.size = B := ⟨_, rfl⟩
  rw [hB] at b0
  have sof : ∀ {a b : World}, (Box a B #[V ct, V ci, V cc] ∧ Up w a) → Up a b → (Box b B #[V ct, V ci, V cc] ∧ Up w b) := fun h u => ⟨h.1.up u, h.2.trans u⟩
  clear ha
  go_enter Tryd.func66, Tryd.ntmps66
  go_upto_region 1 with fail
  clear hB
  generalize w.alloc (.cells #[V ct, V ci, V cc] 37) = w0 at *
  have hs := sof ⟨b0, u0⟩ (Up.drew w0)
  refine wp_region_held_drew (S := fun u => Box u B #[V ct, V ci, V cc] ∧ Up w u) (by kernel_rfl) hs (fun hs0 => ?_)
  refine take_to (some 5) (i := 0) (v := .pointer (some ⟨g, o, none⟩)) rfl rfl (by kernel_rfl) (by kernel_rfl) (by kernel_rfl) (fun _ _ _ h => h) (Or.inl ⟨by kernel_rfl, by intro u hSu; go_simp⟩) hs ?_
  simp only [Act.put, List.setIfInBounds_toArray, List.set_cons_zero, List.set_cons_succ]
  refine take_to (some 6) (i := 1) (v := .pointer (some ⟨g, o, none⟩)) rfl rfl (by kernel_rfl) (by kernel_rfl) (by kernel_rfl) (fun _ _ _ h => h) (Or.inl ⟨by kernel_rfl, by intro u hSu; go_simp⟩) hs ?_
  simp only [Act.put, List.setIfInBounds_toArray, List.set_cons_zero, List.set_cons_succ]
  refine take_to (some 7) (i := 2) (v := .pointer (some ⟨g, o + 1, none⟩)) rfl rfl (by kernel_rfl) (by kernel_rfl) (by kernel_rfl) (fun _ _ _ h => h) (Or.inl ⟨by kernel_rfl, by intro u hSu; go_simp⟩) hs ?_
  simp only [Act.put, List.setIfInBounds_toArray, List.set_cons_zero, List.set_cons_succ]
  refine take_to (some 8) (i := 3) (v := .agg #[.int .i64 pk, V pg, V ps, V pq, V pp]) rfl rfl (by kernel_rfl) (by kernel_rfl) (by kernel_rfl) (fun _ _ _ h => h) (Or.inl ⟨by kernel_rfl, by intro u hSu; obtain ⟨e0, e1, e2, e3, e4, e5, e6, e7, e8⟩ := HA.out.up hSu.2; simp only at e0 e1 e2 e3 e4 e5 e6 e7 e8; go_simp⟩) hs ?_
  simp only [Act.put, List.setIfInBounds_toArray, List.set_cons_zero, List.set_cons_succ]
  refine take_to (some 9) (i := 4) (v := .agg #[V ct, V ci, V cc]) rfl rfl (by kernel_rfl) (by kernel_rfl) (by kernel_rfl) (fun _ _ _ h => h) (Or.inl ⟨by kernel_rfl, by intro u hSu; obtain ⟨q0, q1, q2⟩ := hSu.1.c3; go_simp⟩) hs ?_
  simp only [Act.put, List.setIfInBounds_toArray, List.set_cons_zero, List.set_cons_succ]
  refine wpAnyH_ready (rs := [5]) (by kernel_rfl) (by simp) ?_
  refine AllReadyH.cons rfl (fun K hK => ?_) AllReadyH.nil
  go_simp
  refine (hF _).mono ?_
  rintro e w1 ⟨rfl, u1⟩
  replace hs := sof hs u1
  refine hK.out _ _ hs (fun _ => ?_)
  clear hK K
  refine take_to (some 11) (i := 6) (v := .bool true) rfl rfl (by kernel_rfl) (by kernel_rfl) (by kernel_rfl) (fun _ _ _ h => h) (Or.inl ⟨by kernel_rfl, by intro u hSu; go_simp⟩) hs ?_
  simp only [Act.put, List.setIfInBounds_toArray, List.set_cons_zero, List.set_cons_succ]
  refine take_to (some 12) (i := 7) (v := .bool true) rfl rfl (by kernel_rfl) (by kernel_rfl) (by kernel_rfl) (fun _ _ _ h => h) (Or.inl ⟨by kernel_rfl, by intro u hSu; go_simp⟩) hs ?_
  simp only [Act.put, List.setIfInBounds_toArray, List.set_cons_zero, List.set_cons_succ]
  refine take_to (some 13) (i := 8) (v := undef) rfl rfl (by kernel_rfl) (by kernel_rfl) (by kernel_rfl) (fun _ _ _ h => h) (Or.inr ⟨by kernel_rfl, rfl⟩) hs ?_
  simp only [Act.put, List.setIfInBounds_toArray, List.set_cons_zero, List.set_cons_succ]
  refine take_to (some 14) (i := 9) (v := undef) rfl rfl (by kernel_rfl) (by kernel_rfl) (by kernel_rfl) (fun _ _ _ h => h) (Or.inr ⟨by kernel_rfl, rfl⟩) hs ?_
  simp only [Act.put, List.setIfInBounds_toArray, List.set_cons_zero, List.set_cons_succ]
  refine take_to (some 15) (i := 10) (v := undef) rfl rfl (by kernel_rfl) (by kernel_rfl) (by kernel_rfl) (fun _ _ _ h => h) (Or.inr ⟨by kernel_rfl, rfl⟩) hs ?_
  simp only [Act.put, List.setIfInBounds_toArray, List.set_cons_zero, List.set_cons_succ]
  refine take_to (some 16) (i := 11) (v := undef) rfl rfl (by kernel_rfl) (by kernel_rfl) (by kernel_rfl) (fun _ _ _ h => h) (Or.inr ⟨by kernel_rfl, rfl⟩) hs ?_
  simp only [Act.put, List.setIfInBounds_toArray, List.set_cons_zero, List.set_cons_succ]
  refine take_to (some 17) (i := 12) (v := undef) rfl rfl (by kernel_rfl) (by kernel_rfl) (by kernel_rfl) (fun _ _ _ h => h) (Or.inr ⟨by kernel_rfl, rfl⟩) hs ?_
  simp only [Act.put, List.setIfInBounds_toArray, List.set_cons_zero, List.set_cons_succ]
  refine take_to (some 18) (i := 13) (v := undef) rfl rfl (by kernel_rfl) (by kernel_rfl) (by kernel_rfl) (fun _ _ _ h => h) (Or.inr ⟨by kernel_rfl, rfl⟩) hs ?_
  simp only [Act.put, List.setIfInBounds_toArray, List.set_cons_zero, List.set_cons_succ]
  refine take_to (some 19) (i := 14) (v := undef) rfl rfl (by kernel_rfl) (by kernel_rfl) (by kernel_rfl) (fun _ _ _ h => h) (Or.inr ⟨by kernel_rfl, rfl⟩) hs ?_
  simp only [Act.put, List.setIfInBounds_toArray, List.set_cons_zero, List.set_cons_succ]
  refine take_to (some 20) (i := 15) (v := undef) rfl rfl (by kernel_rfl) (by kernel_rfl) (by kernel_rfl) (fun _ _ _ h => h) (Or.inr ⟨by kernel_rfl, rfl⟩) hs ?_
  simp only [Act.put, List.setIfInBounds_toArray, List.set_cons_zero, List.set_cons_succ]
  refine take_to (some 21) (i := 16) (v := undef) rfl rfl (by kernel_rfl) (by kernel_rfl) (by kernel_rfl) (fun _ _ _ h => h) (Or.inr ⟨by kernel_rfl, rfl⟩) hs ?_
  simp only [Act.put, List.setIfInBounds_toArray, List.set_cons_zero, List.set_cons_succ]
  refine take_to (some 22) (i := 17) (v := undef) rfl rfl (by kernel_rfl) (by kernel_rfl) (by kernel_rfl) (fun _ _ _ h => h) (Or.inr ⟨by kernel_rfl, rfl⟩) hs ?_
  simp only [Act.put, List.setIfInBounds_toArray, List.set_cons_zero, List.set_cons_succ]
  refine take_to (some 23) (i := 18) (v := undef) rfl rfl (by kernel_rfl) (by kernel_rfl) (by kernel_rfl) (fun _ _ _ h => h) (Or.inr ⟨by kernel_rfl, rfl⟩) hs ?_
  simp only [Act.put, List.setIfInBounds_toArray, List.set_cons_zero, List.set_cons_succ]
  refine take_to (some 24) (i := 19) (v := .bool true) rfl rfl (by kernel_rfl) (by kernel_rfl) (by kernel_rfl) (fun _ _ _ h => h) (Or.inl ⟨by kernel_rfl, by intro u hSu; go_simp⟩) hs ?_
  simp only [Act.put, List.setIfInBounds_toArray, List.set_cons_zero, List.set_cons_succ]
  refine wpAnyH_done (by kernel_rfl) ?_ _
  go_wp2
  go_ret
  exact ⟨rfl, hs.2⟩

set_option maxRecDepth 20000 in
set_option maxHeartbeats 1600000 in
theorem raise_below (g o : Nat) (S : ByteArray) (pk : Int) (pg ps pq pp lt li lc ct ci cc : Nat) (w : World) (ha : EntAt w g o (S, ⟨pk, pg, ps, pq, pp⟩, ⟨lt, li, lc⟩)) (hF : ∀ u, Calls Tryd.prog 25 #[Pv pk pg ps pq pp, Lv ct ci cc] u fun e w' => e = .returned (.bool true) ∧ Up u w') (hV : ∀ u, Calls Tryd.prog 75 #[Pv pk pg ps pq pp, Lv ct ci cc, Lv lt li lc] u fun e w' => e = .returned (.bool false) ∧ Up u w') :
    Calls Tryd.prog 66 #[.pointer (some ⟨g, o, none⟩), Lv ct ci cc] w fun e w' => e = .returned (.bool false) ∧ Up w w' := by
  have HA : Hid (EntAt w g o (S, ⟨pk, pg, ps, pq, pp⟩, ⟨lt, li, lc⟩)) := ha
  have b0 : Box (w.alloc (.cells #[V ct, V ci, V cc] 37)) w.heap.size #[V ct, V ci, V cc] := Box.new _ _ _
  have u0 : Up w (w.alloc (.cells #[V ct, V ci, V cc] 37)) := Up.alloc _ _
  obtain ⟨B, hB⟩ : ∃ B, w.heap.size = B := ⟨_, rfl⟩
  rw [hB] at b0
  have sof : ∀ {a b : World}, (Box a B #[V ct, V ci, V cc] ∧ Up w a) → Up a b → (Box b B #[V ct, V ci, V cc] ∧ Up w b) := fun h u => ⟨h.1.up u, h.2.trans u⟩
  clear ha
  go_enter Tryd.func66, Tryd.ntmps66
  go_upto_region 1 with fail
  clear hB
  generalize w.alloc (.cells #[V ct, V ci, V cc] 37) = w0 at *
  have hs := sof ⟨b0, u0⟩ (Up.drew w0)
  refine wp_region_held_drew (S := fun u => Box u B #[V ct, V ci, V cc] ∧ Up w u) (by kernel_rfl) hs (fun hs0 => ?_)
  refine take_to (some 5) (i := 0) (v := .pointer (some ⟨g, o, none⟩)) rfl rfl (by kernel_rfl) (by kernel_rfl) (by kernel_rfl) (fun _ _ _ h => h) (Or.inl ⟨by kernel_rfl, by intro u hSu; go_simp⟩) hs ?_
  simp only [Act.put, List.setIfInBounds_toArray, List.set_cons_zero, List.set_cons_succ]
  refine take_to (some 6) (i := 1) (v := .pointer (some ⟨g, o, none⟩)) rfl rfl (by kernel_rfl) (by kernel_rfl) (by kernel_rfl) (fun _ _ _ h => h) (Or.inl ⟨by kernel_rfl, by intro u hSu; go_simp⟩) hs ?_
  simp only [Act.put, List.setIfInBounds_toArray, List.set_cons_zero, List.set_cons_succ]
  refine take_to (some 7) (i := 2) (v := .pointer (some ⟨g, o + 1, none⟩)) rfl rfl (by kernel_rfl) (by kernel_rfl) (by kernel_rfl) (fun _ _ _ h => h) (Or.inl ⟨by kernel_rfl, by intro u hSu; go_simp⟩) hs ?_
  simp only [Act.put, List.setIfInBounds_toArray, List.set_cons_zero, List.set_cons_succ]
  refine take_to (some 8) (i := 3) (v := .agg #[.int .i64 pk, V pg, V ps, V pq, V pp]) rfl rfl (by kernel_rfl) (by kernel_rfl) (by kernel_rfl) (fun _ _ _ h => h) (Or.inl ⟨by kernel_rfl, by intro u hSu; obtain ⟨e0, e1, e2, e3, e4, e5, e6, e7, e8⟩ := HA.out.up hSu.2; simp only at e0 e1 e2 e3 e4 e5 e6 e7 e8; go_simp⟩) hs ?_
  simp only [Act.put, List.setIfInBounds_toArray, List.set_cons_zero, List.set_cons_succ]
  refine take_to (some 9) (i := 4) (v := .agg #[V ct, V ci, V cc]) rfl rfl (by kernel_rfl) (by kernel_rfl) (by kernel_rfl) (fun _ _ _ h => h) (Or.inl ⟨by kernel_rfl, by intro u hSu; obtain ⟨q0, q1, q2⟩ := hSu.1.c3; go_simp⟩) hs ?_
  simp only [Act.put, List.setIfInBounds_toArray, List.set_cons_zero, List.set_cons_succ]
  refine wpAnyH_ready (rs := [5]) (by kernel_rfl) (by simp) ?_
  refine AllReadyH.cons rfl (fun K hK => ?_) AllReadyH.nil
  go_simp
  refine (hF _).mono ?_
  rintro e w1 ⟨rfl, u1⟩
  replace hs := sof hs u1
  refine hK.out _ _ hs (fun _ => ?_)
  clear hK K
  refine take_to (some 11) (i := 6) (v := .bool false) rfl rfl (by kernel_rfl) (by kernel_rfl) (by kernel_rfl) (fun _ _ _ h => h) (Or.inl ⟨by kernel_rfl, by intro u hSu; go_simp⟩) hs ?_
  simp only [Act.put, List.setIfInBounds_toArray, List.set_cons_zero, List.set_cons_succ]
  refine take_to (some 12) (i := 7) (v := .bool false) rfl rfl (by kernel_rfl) (by kernel_rfl) (by kernel_rfl) (fun _ _ _ h => h) (Or.inl ⟨by kernel_rfl, by intro u hSu; go_simp⟩) hs ?_
  simp only [Act.put, List.setIfInBounds_toArray, List.set_cons_zero, List.set_cons_succ]
  refine take_to (some 13) (i := 8) (v := .pointer (some ⟨g, o, none⟩)) rfl rfl (by kernel_rfl) (by kernel_rfl) (by kernel_rfl) (fun _ _ _ h => h) (Or.inl ⟨by kernel_rfl, by intro u hSu; go_simp⟩) hs ?_
  simp only [Act.put, List.setIfInBounds_toArray, List.set_cons_zero, List.set_cons_succ]
  refine take_to (some 14) (i := 9) (v := .pointer (some ⟨g, o, none⟩)) rfl rfl (by kernel_rfl) (by kernel_rfl) (by kernel_rfl) (fun _ _ _ h => h) (Or.inl ⟨by kernel_rfl, by intro u hSu; go_simp⟩) hs ?_
  simp only [Act.put, List.setIfInBounds_toArray, List.set_cons_zero, List.set_cons_succ]
  refine take_to (some 15) (i := 10) (v := .pointer (some ⟨g, o + 1, none⟩)) rfl rfl (by kernel_rfl) (by kernel_rfl) (by kernel_rfl) (fun _ _ _ h => h) (Or.inl ⟨by kernel_rfl, by intro u hSu; go_simp⟩) hs ?_
  simp only [Act.put, List.setIfInBounds_toArray, List.set_cons_zero, List.set_cons_succ]
  refine take_to (some 16) (i := 11) (v := .agg #[.int .i64 pk, V pg, V ps, V pq, V pp]) rfl rfl (by kernel_rfl) (by kernel_rfl) (by kernel_rfl) (fun _ _ _ h => h) (Or.inl ⟨by kernel_rfl, by intro u hSu; obtain ⟨e0, e1, e2, e3, e4, e5, e6, e7, e8⟩ := HA.out.up hSu.2; simp only at e0 e1 e2 e3 e4 e5 e6 e7 e8; go_simp⟩) hs ?_
  simp only [Act.put, List.setIfInBounds_toArray, List.set_cons_zero, List.set_cons_succ]
  refine take_to (some 17) (i := 12) (v := .agg #[V ct, V ci, V cc]) rfl rfl (by kernel_rfl) (by kernel_rfl) (by kernel_rfl) (fun _ _ _ h => h) (Or.inl ⟨by kernel_rfl, by intro u hSu; obtain ⟨q0, q1, q2⟩ := hSu.1.c3; go_simp⟩) hs ?_
  simp only [Act.put, List.setIfInBounds_toArray, List.set_cons_zero, List.set_cons_succ]
  refine take_to (some 18) (i := 13) (v := .pointer (some ⟨g, o, none⟩)) rfl rfl (by kernel_rfl) (by kernel_rfl) (by kernel_rfl) (fun _ _ _ h => h) (Or.inl ⟨by kernel_rfl, by intro u hSu; go_simp⟩) hs ?_
  simp only [Act.put, List.setIfInBounds_toArray, List.set_cons_zero, List.set_cons_succ]
  refine take_to (some 19) (i := 14) (v := .pointer (some ⟨g, o, none⟩)) rfl rfl (by kernel_rfl) (by kernel_rfl) (by kernel_rfl) (fun _ _ _ h => h) (Or.inl ⟨by kernel_rfl, by intro u hSu; go_simp⟩) hs ?_
  simp only [Act.put, List.setIfInBounds_toArray, List.set_cons_zero, List.set_cons_succ]
  refine take_to (some 20) (i := 15) (v := .pointer (some ⟨g, o + 6, none⟩)) rfl rfl (by kernel_rfl) (by kernel_rfl) (by kernel_rfl) (fun _ _ _ h => h) (Or.inl ⟨by kernel_rfl, by intro u hSu; go_simp⟩) hs ?_
  simp only [Act.put, List.setIfInBounds_toArray, List.set_cons_zero, List.set_cons_succ]
  refine take_to (some 21) (i := 16) (v := .agg #[V lt, V li, V lc]) rfl rfl (by kernel_rfl) (by kernel_rfl) (by kernel_rfl) (fun _ _ _ h => h) (Or.inl ⟨by kernel_rfl, by intro u hSu; obtain ⟨e0, e1, e2, e3, e4, e5, e6, e7, e8⟩ := HA.out.up hSu.2; simp only at e0 e1 e2 e3 e4 e5 e6 e7 e8; go_simp⟩) hs ?_
  simp only [Act.put, List.setIfInBounds_toArray, List.set_cons_zero, List.set_cons_succ]
  refine wpAnyH_ready (rs := [17]) (by kernel_rfl) (by simp) ?_
  refine AllReadyH.cons rfl (fun K hK => ?_) AllReadyH.nil
  go_simp
  refine (hV _).mono ?_
  rintro e w2 ⟨rfl, u2⟩
  replace hs := sof hs u2
  refine hK.out _ _ hs (fun _ => ?_)
  clear hK K
  refine take_to (some 23) (i := 18) (v := .bool true) rfl rfl (by kernel_rfl) (by kernel_rfl) (by kernel_rfl) (fun _ _ _ h => h) (Or.inl ⟨by kernel_rfl, by intro u hSu; go_simp⟩) hs ?_
  simp only [Act.put, List.setIfInBounds_toArray, List.set_cons_zero, List.set_cons_succ]
  refine take_to (some 24) (i := 19) (v := .bool true) rfl rfl (by kernel_rfl) (by kernel_rfl) (by kernel_rfl) (fun _ _ _ h => h) (Or.inl ⟨by kernel_rfl, by intro u hSu; go_simp⟩) hs ?_
  simp only [Act.put, List.setIfInBounds_toArray, List.set_cons_zero, List.set_cons_succ]
  refine wpAnyH_done (by kernel_rfl) ?_ _
  go_wp2
  go_ret
  exact ⟨rfl, hs.2⟩

set_option maxRecDepth 20000 in
set_option maxHeartbeats 1600000 in
theorem raise_put (g o : Nat) (S : ByteArray) (pk : Int) (pg ps pq pp lt li lc ct ci cc : Nat) (w : World) (ha : EntAt w g o (S, ⟨pk, pg, ps, pq, pp⟩, ⟨lt, li, lc⟩)) (hF : ∀ u, Calls Tryd.prog 25 #[Pv pk pg ps pq pp, Lv ct ci cc] u fun e w' => e = .returned (.bool true) ∧ Up u w') (hV : ∀ u, Calls Tryd.prog 75 #[Pv pk pg ps pq pp, Lv ct ci cc, Lv lt li lc] u fun e w' => e = .returned (.bool true) ∧ Up u w') (cur : Array Value) (hg : w.heap[g]? = some (.cells cur 58 (0, 0))) :
    Calls Tryd.prog 66 #[.pointer (some ⟨g, o, none⟩), Lv ct ci cc] w fun e w' => e = .returned (.bool true) ∧ ∃ u, Up w u ∧ w' = u.setCells g (o + 6) [V ct, V ci, V cc] := by
  have HA : Hid (EntAt w g o (S, ⟨pk, pg, ps, pq, pp⟩, ⟨lt, li, lc⟩)) := ha
  have b0 : Box (w.alloc (.cells #[V ct, V ci, V cc] 37)) w.heap.size #[V ct, V ci, V cc] := Box.new _ _ _
  have u0 : Up w (w.alloc (.cells #[V ct, V ci, V cc] 37)) := Up.alloc _ _
  obtain ⟨B, hB⟩ : ∃ B, w.heap.size = B := ⟨_, rfl⟩
  rw [hB] at b0
  have sof : ∀ {a b : World}, (Box a B #[V ct, V ci, V cc] ∧ Up w a) → Up a b → (Box b B #[V ct, V ci, V cc] ∧ Up w b) := fun h u => ⟨h.1.up u, h.2.trans u⟩
  clear ha
  go_enter Tryd.func66, Tryd.ntmps66
  go_upto_region 1 with fail
  clear hB
  generalize w.alloc (.cells #[V ct, V ci, V cc] 37) = w0 at *
  have hs := sof ⟨b0, u0⟩ (Up.drew w0)
  refine wp_region_held_drew (S := fun u => Box u B #[V ct, V ci, V cc] ∧ Up w u) (by kernel_rfl) hs (fun hs0 => ?_)
  refine take_to (some 5) (i := 0) (v := .pointer (some ⟨g, o, none⟩)) rfl rfl (by kernel_rfl) (by kernel_rfl) (by kernel_rfl) (fun _ _ _ h => h) (Or.inl ⟨by kernel_rfl, by intro u hSu; go_simp⟩) hs ?_
  simp only [Act.put, List.setIfInBounds_toArray, List.set_cons_zero, List.set_cons_succ]
  refine take_to (some 6) (i := 1) (v := .pointer (some ⟨g, o, none⟩)) rfl rfl (by kernel_rfl) (by kernel_rfl) (by kernel_rfl) (fun _ _ _ h => h) (Or.inl ⟨by kernel_rfl, by intro u hSu; go_simp⟩) hs ?_
  simp only [Act.put, List.setIfInBounds_toArray, List.set_cons_zero, List.set_cons_succ]
  refine take_to (some 7) (i := 2) (v := .pointer (some ⟨g, o + 1, none⟩)) rfl rfl (by kernel_rfl) (by kernel_rfl) (by kernel_rfl) (fun _ _ _ h => h) (Or.inl ⟨by kernel_rfl, by intro u hSu; go_simp⟩) hs ?_
  simp only [Act.put, List.setIfInBounds_toArray, List.set_cons_zero, List.set_cons_succ]
  refine take_to (some 8) (i := 3) (v := .agg #[.int .i64 pk, V pg, V ps, V pq, V pp]) rfl rfl (by kernel_rfl) (by kernel_rfl) (by kernel_rfl) (fun _ _ _ h => h) (Or.inl ⟨by kernel_rfl, by intro u hSu; obtain ⟨e0, e1, e2, e3, e4, e5, e6, e7, e8⟩ := HA.out.up hSu.2; simp only at e0 e1 e2 e3 e4 e5 e6 e7 e8; go_simp⟩) hs ?_
  simp only [Act.put, List.setIfInBounds_toArray, List.set_cons_zero, List.set_cons_succ]
  refine take_to (some 9) (i := 4) (v := .agg #[V ct, V ci, V cc]) rfl rfl (by kernel_rfl) (by kernel_rfl) (by kernel_rfl) (fun _ _ _ h => h) (Or.inl ⟨by kernel_rfl, by intro u hSu; obtain ⟨q0, q1, q2⟩ := hSu.1.c3; go_simp⟩) hs ?_
  simp only [Act.put, List.setIfInBounds_toArray, List.set_cons_zero, List.set_cons_succ]
  refine wpAnyH_ready (rs := [5]) (by kernel_rfl) (by simp) ?_
  refine AllReadyH.cons rfl (fun K hK => ?_) AllReadyH.nil
  go_simp
  refine (hF _).mono ?_
  rintro e w1 ⟨rfl, u1⟩
  replace hs := sof hs u1
  refine hK.out _ _ hs (fun _ => ?_)
  clear hK K
  refine take_to (some 11) (i := 6) (v := .bool false) rfl rfl (by kernel_rfl) (by kernel_rfl) (by kernel_rfl) (fun _ _ _ h => h) (Or.inl ⟨by kernel_rfl, by intro u hSu; go_simp⟩) hs ?_
  simp only [Act.put, List.setIfInBounds_toArray, List.set_cons_zero, List.set_cons_succ]
  refine take_to (some 12) (i := 7) (v := .bool false) rfl rfl (by kernel_rfl) (by kernel_rfl) (by kernel_rfl) (fun _ _ _ h => h) (Or.inl ⟨by kernel_rfl, by intro u hSu; go_simp⟩) hs ?_
  simp only [Act.put, List.setIfInBounds_toArray, List.set_cons_zero, List.set_cons_succ]
  refine take_to (some 13) (i := 8) (v := .pointer (some ⟨g, o, none⟩)) rfl rfl (by kernel_rfl) (by kernel_rfl) (by kernel_rfl) (fun _ _ _ h => h) (Or.inl ⟨by kernel_rfl, by intro u hSu; go_simp⟩) hs ?_
  simp only [Act.put, List.setIfInBounds_toArray, List.set_cons_zero, List.set_cons_succ]
  refine take_to (some 14) (i := 9) (v := .pointer (some ⟨g, o, none⟩)) rfl rfl (by kernel_rfl) (by kernel_rfl) (by kernel_rfl) (fun _ _ _ h => h) (Or.inl ⟨by kernel_rfl, by intro u hSu; go_simp⟩) hs ?_
  simp only [Act.put, List.setIfInBounds_toArray, List.set_cons_zero, List.set_cons_succ]
  refine take_to (some 15) (i := 10) (v := .pointer (some ⟨g, o + 1, none⟩)) rfl rfl (by kernel_rfl) (by kernel_rfl) (by kernel_rfl) (fun _ _ _ h => h) (Or.inl ⟨by kernel_rfl, by intro u hSu; go_simp⟩) hs ?_
  simp only [Act.put, List.setIfInBounds_toArray, List.set_cons_zero, List.set_cons_succ]
  refine take_to (some 16) (i := 11) (v := .agg #[.int .i64 pk, V pg, V ps, V pq, V pp]) rfl rfl (by kernel_rfl) (by kernel_rfl) (by kernel_rfl) (fun _ _ _ h => h) (Or.inl ⟨by kernel_rfl, by intro u hSu; obtain ⟨e0, e1, e2, e3, e4, e5, e6, e7, e8⟩ := HA.out.up hSu.2; simp only at e0 e1 e2 e3 e4 e5 e6 e7 e8; go_simp⟩) hs ?_
  simp only [Act.put, List.setIfInBounds_toArray, List.set_cons_zero, List.set_cons_succ]
  refine take_to (some 17) (i := 12) (v := .agg #[V ct, V ci, V cc]) rfl rfl (by kernel_rfl) (by kernel_rfl) (by kernel_rfl) (fun _ _ _ h => h) (Or.inl ⟨by kernel_rfl, by intro u hSu; obtain ⟨q0, q1, q2⟩ := hSu.1.c3; go_simp⟩) hs ?_
  simp only [Act.put, List.setIfInBounds_toArray, List.set_cons_zero, List.set_cons_succ]
  refine take_to (some 18) (i := 13) (v := .pointer (some ⟨g, o, none⟩)) rfl rfl (by kernel_rfl) (by kernel_rfl) (by kernel_rfl) (fun _ _ _ h => h) (Or.inl ⟨by kernel_rfl, by intro u hSu; go_simp⟩) hs ?_
  simp only [Act.put, List.setIfInBounds_toArray, List.set_cons_zero, List.set_cons_succ]
  refine take_to (some 19) (i := 14) (v := .pointer (some ⟨g, o, none⟩)) rfl rfl (by kernel_rfl) (by kernel_rfl) (by kernel_rfl) (fun _ _ _ h => h) (Or.inl ⟨by kernel_rfl, by intro u hSu; go_simp⟩) hs ?_
  simp only [Act.put, List.setIfInBounds_toArray, List.set_cons_zero, List.set_cons_succ]
  refine take_to (some 20) (i := 15) (v := .pointer (some ⟨g, o + 6, none⟩)) rfl rfl (by kernel_rfl) (by kernel_rfl) (by kernel_rfl) (fun _ _ _ h => h) (Or.inl ⟨by kernel_rfl, by intro u hSu; go_simp⟩) hs ?_
  simp only [Act.put, List.setIfInBounds_toArray, List.set_cons_zero, List.set_cons_succ]
  refine take_to (some 21) (i := 16) (v := .agg #[V lt, V li, V lc]) rfl rfl (by kernel_rfl) (by kernel_rfl) (by kernel_rfl) (fun _ _ _ h => h) (Or.inl ⟨by kernel_rfl, by intro u hSu; obtain ⟨e0, e1, e2, e3, e4, e5, e6, e7, e8⟩ := HA.out.up hSu.2; simp only at e0 e1 e2 e3 e4 e5 e6 e7 e8; go_simp⟩) hs ?_
  simp only [Act.put, List.setIfInBounds_toArray, List.set_cons_zero, List.set_cons_succ]
  refine wpAnyH_ready (rs := [17]) (by kernel_rfl) (by simp) ?_
  refine AllReadyH.cons rfl (fun K hK => ?_) AllReadyH.nil
  go_simp
  refine (hV _).mono ?_
  rintro e w2 ⟨rfl, u2⟩
  replace hs := sof hs u2
  refine hK.out _ _ hs (fun _ => ?_)
  clear hK K
  refine take_to (some 23) (i := 18) (v := .bool false) rfl rfl (by kernel_rfl) (by kernel_rfl) (by kernel_rfl) (fun _ _ _ h => h) (Or.inl ⟨by kernel_rfl, by intro u hSu; go_simp⟩) hs ?_
  simp only [Act.put, List.setIfInBounds_toArray, List.set_cons_zero, List.set_cons_succ]
  refine take_to (some 24) (i := 19) (v := .bool false) rfl rfl (by kernel_rfl) (by kernel_rfl) (by kernel_rfl) (fun _ _ _ h => h) (Or.inl ⟨by kernel_rfl, by intro u hSu; go_simp⟩) hs ?_
  simp only [Act.put, List.setIfInBounds_toArray, List.set_cons_zero, List.set_cons_succ]
  refine wpAnyH_done (by kernel_rfl) ?_ _
  have hgu := (hs.2.block g (Array.getElem?_eq_some_iff.1 hg).1).trans hg
  obtain ⟨q0, q1, q2⟩ := hs.1.c3
  obtain ⟨e0, e1, e2, e3, e4, e5, e6, e7, e8⟩ := HA.out.up hs.2
  have hfz : ∀ j, w2.frozen? ⟨g, j, none⟩ = false := fun j => by simp [World.frozen?, hgu]
  have f6 := hfz (o + 6)
  have f7 := hfz (o + 7)
  have f8 := hfz (o + 8)
  have HU : Hid (Up w w2) := hs.2
  clear hgu hfz hg hs hs0 sof
  go_wp2
  go_ret
  exact ⟨rfl, w2, HU.out, rfl⟩
end Go.Proofs.YtdddfapelencoaaDoor
