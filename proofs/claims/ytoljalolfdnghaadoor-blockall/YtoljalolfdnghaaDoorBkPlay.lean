/- block: what the law's plays answers. -/
import Derived.Test.YtoljalolfdnghaaDoorBkIs
import Derived.Test.YtoljalolfdnghaaDoorHeldTo
import Derived.Deep.RegionHeld3
import Derived.Deep.DeepAppendWide
set_option linter.unusedVariables false
set_option linter.unusedSimpArgs false
namespace Go.Proofs.YtoljalolfdnghaaDoor
open Go Go.RowKit

theorem packB_le : ∀ (n first : Nat) (rs : List Rec), rs.length ≤ n → (∀ r ∈ rs, r.length ≤ 200) → (packB first rs).length ≤ 512 * rs.length
  | 0, first, rs, h, _ => by
    obtain rfl : rs = [] := List.eq_nil_of_length_eq_zero (by omega)
    simp [packB_nil]
  | n + 1, first, rs, h, h2 => by
    by_cases hne : rs = []
    · subst hne; simp [packB_nil]
    · have h1 := fitN_some h2 hne
      have h3 := fitN_le 0 rs
      have h4 := fitN_room 0 rs (by omega)
      have ih := packB_le n (first + fitN 0 rs) (rs.drop (fitN 0 rs)) (by rw [List.length_drop]; omega) (fun r hr => h2 r (List.mem_of_mem_drop hr))
      rw [packB_step first h2 hne, List.length_append, blkB_length (by omega)]
      rw [List.length_drop] at ih
      omega
theorem pkR_le (first : Nat) (L : List Rec) : (pkR first L).length ≤ 512 * L.length := by
  unfold pkR
  split
  · rename_i h
    exact packB_le L.length first L (Nat.le_refl _) (anyLong_false h.2)
  · simp
theorem encR_le (first : Nat) (L : List Rec) : (encR first L).length ≤ 512 := by
  unfold encR
  split
  · rename_i h
    rw [blkB_length (by have := h.2; omega)]; omega
  · simp
theorem scanB_le (bad : Nat → Bool) : ∀ (n : Nat) (d : List UInt8) (i due : Nat), (scanB bad n d i due).1.length ≤ 247 * n ∧ ∀ r ∈ (scanB bad n d i due).1, r.length ≤ 200
  | 0, d, i, due => by simp [scanB]
  | n + 1, d, i, due => by
    rw [scanB]
    split
    · simp
    · cases hd : decB (d.take 512) with
      | error e => simp
      | ok x =>
        obtain ⟨f, rs⟩ := x
        simp only
        split
        · have ih := scanB_le bad n (d.drop 512) (i + 1) (due + rs.length)
          have hc := decB_count hd
          have hb := (blk_dec hd).1
          refine ⟨by simp only [List.length_append]; omega, fun r hr => ?_⟩
          rcases List.mem_append.1 hr with h | h
          · exact hb.long r h
          · exact ih.2 r h
        · simp

/-- What the law knows of memory. -/
def KnA (w : World) (ad : Nat → Addr) : Prop := Kn w ad ∧ ErrSet allErrs errTxt w ad
theorem KnA.up {w w' : World} {ad : Nat → Addr} (h : KnA w ad) (u : Up w w') : KnA w' ad := ⟨h.1.up u, h.2.up u⟩

set_option maxRecDepth 20000 in
set_option maxHeartbeats 1600000 in
theorem play1 (f : Nat) (L : List Rec) (vL vB vZ : Value) (w : World) (ad : Nat → Addr) (hk : KnA w ad) (hf : f < 18446744073709551616) (hL : Rw w vL L) (hB : ∃ a n c, vB = .slice a n c) (hZ : ∃ a n c, vZ = .slice a n c) (hn : L.length ≤ 1000000000) (hl : ∀ r ∈ L, r.length ≤ 140737488355328) :
    Calls Tryd.prog 12 #[.agg #[.int .i64 1, .int .u64 (f : Int), vL, vB, vZ]] w fun e w' => e = .returned (.bool true) ∧ Up w w' := by
  obtain ⟨aB, nB, cB, rfl⟩ := hB
  obtain ⟨aZ, nZ, cZ, rfl⟩ := hZ
  obtain ⟨aL, cL, rfl⟩ := hL.slice
  obtain ⟨w0, hw0⟩ : ∃ w0, w.alloc (.cells #[.int .i64 1, .int .u64 (f : Int), .slice aL L.length cL, .slice aB nB cB, .slice aZ nZ cZ] 31) = w0 := ⟨_, rfl⟩
  have hu0 : Up w w0 := by rw [← hw0]; exact Up.alloc _ _
  have hc0 : w0.cell? ⟨w.heap.size, 1, none⟩ = some (.int .u64 (f : Int)) ∧ w0.cell? ⟨w.heap.size, 2, none⟩ = some (.slice aL L.length cL) ∧ w0.cell? ⟨w.heap.size, 3, none⟩ = some (.slice aB nB cB) ∧ w0.cell? ⟨w.heap.size, 4, none⟩ = some (.slice aZ nZ cZ) := by
    rw [← hw0]
    refine ⟨?_, ?_, ?_, ?_⟩ <;> (rw [cell_of_row _ _ _ _ _ _ (heap_alloc_new _ _)]; rfl)
  have hc00 : w0.cell? ⟨w.heap.size, 0, none⟩ = some (.int .i64 1) := by
    rw [← hw0, cell_of_row _ _ _ _ _ _ (heap_alloc_new _ _)]; rfl
  have hlt0 : w.heap.size < w0.heap.size := World.block_lt_of_cell? w0 _ hc0.1
  have HCell : Hid (∀ u, Up w0 u → u.cell? ⟨w.heap.size, 1, none⟩ = some (.int .u64 (f : Int)) ∧ u.cell? ⟨w.heap.size, 2, none⟩ = some (.slice aL L.length cL) ∧ u.cell? ⟨w.heap.size, 3, none⟩ = some (.slice aB nB cB) ∧ u.cell? ⟨w.heap.size, 4, none⟩ = some (.slice aZ nZ cZ)) := fun u hu => by
    rw [hu.cell (p := ⟨w.heap.size, 1, none⟩) hlt0, hu.cell (p := ⟨w.heap.size, 2, none⟩) hlt0, hu.cell (p := ⟨w.heap.size, 3, none⟩) hlt0, hu.cell (p := ⟨w.heap.size, 4, none⟩) hlt0]
    exact hc0
  have HK : Hid (KnA w0 ad ∧ Up w w0 ∧ Rw w0 (.slice aL L.length cL) L) := ⟨hk.up hu0, hu0, hL.up hu0⟩
  have HCopy : Hid (∀ u, Up w0 u → Calls Tryd.prog 15 #[.slice aL L.length cL] u fun e w' => ∃ v' vs, e = .returned v' ∧ RecsO w' u.heap.size v' L vs ∧ Up u w') := fun u hu => copied_any _ L u (HK.out.2.2.up hu) (by omega) hl
  clear hk hL hu0 hc0 hlt0
  go_enter Tryd.func12, Tryd.ntmps12
  go_wp2_with fail
  have hs := Up.drew w0
  clear hc00
  refine wp_region_held_drew (S := fun u => Up w0 u) (by kernel_rfl) hs (fun hs0 => ?_)
  refine take_to (some 26) (i := 0) (v := .pointer (some ⟨w.heap.size, 1, none⟩)) rfl rfl (by kernel_rfl) (by kernel_rfl) (by kernel_rfl) (fun _ _ _ h => h) (Or.inl ⟨by kernel_rfl, by intro u hSu; go_simp⟩) hs ?_
  simp only [Act.put, List.setIfInBounds_toArray, List.set_cons_zero, List.set_cons_succ]
  refine take_to (some 27) (i := 1) (v := .int .u64 (f : Int)) rfl rfl (by kernel_rfl) (by kernel_rfl) (by kernel_rfl) (fun _ _ _ h => h) (Or.inl ⟨by kernel_rfl, by intro u hSu; have q := HCell.out u hSu; obtain ⟨q1, q2, q3, q4⟩ := q; go_simp⟩) hs ?_
  simp only [Act.put, List.setIfInBounds_toArray, List.set_cons_zero, List.set_cons_succ]
  refine take_to (some 28) (i := 2) (v := .pointer (some ⟨w.heap.size, 2, none⟩)) rfl rfl (by kernel_rfl) (by kernel_rfl) (by kernel_rfl) (fun _ _ _ h => h) (Or.inl ⟨by kernel_rfl, by intro u hSu; go_simp⟩) hs ?_
  simp only [Act.put, List.setIfInBounds_toArray, List.set_cons_zero, List.set_cons_succ]
  refine take_to (some 29) (i := 3) (v := .slice aL L.length cL) rfl rfl (by kernel_rfl) (by kernel_rfl) (by kernel_rfl) (fun _ _ _ h => h) (Or.inl ⟨by kernel_rfl, by intro u hSu; have q := HCell.out u hSu; obtain ⟨q1, q2, q3, q4⟩ := q; go_simp⟩) hs ?_
  simp only [Act.put, List.setIfInBounds_toArray, List.set_cons_zero, List.set_cons_succ]
  refine wpAnyH_ready (rs := [4]) (by kernel_rfl) (by simp) ?_
  refine AllReadyH.cons rfl (fun K hK => ?_) AllReadyH.nil
  go_simp
  refine (HCopy.out _ hs).mono ?_
  rintro e w1 ⟨v1, vs1, rfl, r1, u1⟩
  obtain ⟨a1, c1, rfl⟩ := r1.recs.slice
  replace hs : Up w0 w1 := hs.trans u1
  refine hK.out _ _ hs (fun _ => ?_)
  clear hK K
  refine wpAnyH_ready (rs := [5]) (by kernel_rfl) (by simp) ?_
  refine AllReadyH.cons rfl (fun K hK => ?_) AllReadyH.nil
  go_simp
  refine (Encode_any f (.slice a1 L.length c1) L w1 ad (HK.out.1.up hs).1.tb (HK.out.1.up hs).1.gl hf r1.recs.rw (by omega)).mono ?_
  rintro e w2 ⟨v2, rfl, o2, u2⟩
  obtain ⟨a2, c2, rfl⟩ := own_len o2
  replace hs : Up w0 w2 := hs.trans u2
  refine hK.out _ _ hs (fun _ => ?_)
  clear hK K
  refine take_to (some 25) (i := 6) (v := .tuple #[.slice a2 (encR f L).length c2, encE ad f L]) rfl rfl (by kernel_rfl) (by kernel_rfl) (by kernel_rfl) (fun _ _ _ h => h) (Or.inl ⟨by kernel_rfl, by intro u hSu; go_simp⟩) hs ?_
  simp only [Act.put, List.setIfInBounds_toArray, List.set_cons_zero, List.set_cons_succ]
  refine take_to (some 32) (i := 7) (v := .slice a2 (encR f L).length c2) rfl rfl (by kernel_rfl) (by kernel_rfl) (by kernel_rfl) (fun _ _ _ h => h) (Or.inl ⟨by kernel_rfl, by intro u hSu; go_simp⟩) hs ?_
  simp only [Act.put, List.setIfInBounds_toArray, List.set_cons_zero, List.set_cons_succ]
  refine take_to (some 33) (i := 8) (v := encE ad f L) rfl rfl (by kernel_rfl) (by kernel_rfl) (by kernel_rfl) (fun _ _ _ h => h) (Or.inl ⟨by kernel_rfl, by intro u hSu; go_simp⟩) hs ?_
  simp only [Act.put, List.setIfInBounds_toArray, List.set_cons_zero, List.set_cons_succ]
  refine take_to (some 3) (i := 9) (v := .slice a2 (encR f L).length c2) rfl rfl (by kernel_rfl) (by kernel_rfl) (by kernel_rfl) (fun _ _ _ h => h) (Or.inl ⟨by kernel_rfl, by intro u hSu; go_simp⟩) hs ?_
  simp only [Act.put, List.setIfInBounds_toArray, List.set_cons_zero, List.set_cons_succ]
  refine take_to (some 4) (i := 10) (v := encE ad f L) rfl rfl (by kernel_rfl) (by kernel_rfl) (by kernel_rfl) (fun _ _ _ h => h) (Or.inl ⟨by kernel_rfl, by intro u hSu; go_simp⟩) hs ?_
  simp only [Act.put, List.setIfInBounds_toArray, List.set_cons_zero, List.set_cons_succ]
  refine wpAnyH_done (by kernel_rfl) ?_ _
  have HO : Hid (Own w2 5 w1.heap.size (.slice a2 (encR f L).length c2) (encR f L) ∧ (encR f L).length ≤ 1000000000000) := ⟨o2, by have := encR_le f L; omega⟩
  obtain ⟨q1, q2, q3, q4⟩ := HCell.out w2 hs
  clear o2 u2 u1 r1 hw0
  go_wp2_with fail
  refine (rEncode_any f (.slice aL L.length cL) L w2 hf (HK.out.2.2.up hs) (by omega)).mono ?_
  rintro e w3 ⟨v3, rfl, o3, u3⟩
  have U3 : Up w0 w3 := hs.trans u3
  obtain ⟨a3, c3, rfl⟩ := own_len o3
  go_wp2_with fail
  refine (Is_enc f L w3 ad (HK.out.1.up U3).2).mono ?_
  rintro e w4 ⟨rfl, e4⟩
  obtain rfl : w3 = w4 := e4.symm
  have hsm := same_any 0 0 _ _ (encR f L) (encR f L) w3 ((HO.out.1.sl.up u3).mono (Nat.zero_le _)) (o3.sl.mono (Nat.zero_le _)) (by have := HO.out.2; omega) (by have := HO.out.2; omega)
  rw [decide_eq_true rfl] at hsm
  clear q1 q2 q3 q4 o3 u3 HCell HCopy
  go_wp2_with fail
  refine hsm.mono ?_
  rintro e w5 ⟨rfl, n, e5⟩
  have U5 : Up w w5 := by rw [e5]; exact (HK.out.2.1.trans U3).trans (up_drewN _ _)
  clear hsm e5
  go_wp2
  go_ret
  exact ⟨rfl, U5⟩
set_option maxRecDepth 20000 in
set_option maxHeartbeats 1600000 in
theorem play3 (f : Nat) (L : List Rec) (vL vB vZ : Value) (w : World) (ad : Nat → Addr) (hk : KnA w ad) (hf : f < 18446744073709551616) (hL : Rw w vL L) (hB : ∃ a n c, vB = .slice a n c) (hZ : ∃ a n c, vZ = .slice a n c) (hn : L.length ≤ 1000000000) (hl : ∀ r ∈ L, r.length ≤ 140737488355328) :
    Calls Tryd.prog 12 #[.agg #[.int .i64 3, .int .u64 (f : Int), vL, vB, vZ]] w fun e w' => e = .returned (.bool true) ∧ Up w w' := by
  obtain ⟨aB, nB, cB, rfl⟩ := hB
  obtain ⟨aZ, nZ, cZ, rfl⟩ := hZ
  obtain ⟨aL, cL, rfl⟩ := hL.slice
  obtain ⟨w0, hw0⟩ : ∃ w0, w.alloc (.cells #[.int .i64 3, .int .u64 (f : Int), .slice aL L.length cL, .slice aB nB cB, .slice aZ nZ cZ] 31) = w0 := ⟨_, rfl⟩
  have hu0 : Up w w0 := by rw [← hw0]; exact Up.alloc _ _
  have hc0 : w0.cell? ⟨w.heap.size, 1, none⟩ = some (.int .u64 (f : Int)) ∧ w0.cell? ⟨w.heap.size, 2, none⟩ = some (.slice aL L.length cL) ∧ w0.cell? ⟨w.heap.size, 3, none⟩ = some (.slice aB nB cB) ∧ w0.cell? ⟨w.heap.size, 4, none⟩ = some (.slice aZ nZ cZ) := by
    rw [← hw0]
    refine ⟨?_, ?_, ?_, ?_⟩ <;> (rw [cell_of_row _ _ _ _ _ _ (heap_alloc_new _ _)]; rfl)
  have hc00 : w0.cell? ⟨w.heap.size, 0, none⟩ = some (.int .i64 3) := by
    rw [← hw0, cell_of_row _ _ _ _ _ _ (heap_alloc_new _ _)]; rfl
  have hlt0 : w.heap.size < w0.heap.size := World.block_lt_of_cell? w0 _ hc0.1
  have HCell : Hid (∀ u, Up w0 u → u.cell? ⟨w.heap.size, 1, none⟩ = some (.int .u64 (f : Int)) ∧ u.cell? ⟨w.heap.size, 2, none⟩ = some (.slice aL L.length cL) ∧ u.cell? ⟨w.heap.size, 3, none⟩ = some (.slice aB nB cB) ∧ u.cell? ⟨w.heap.size, 4, none⟩ = some (.slice aZ nZ cZ)) := fun u hu => by
    rw [hu.cell (p := ⟨w.heap.size, 1, none⟩) hlt0, hu.cell (p := ⟨w.heap.size, 2, none⟩) hlt0, hu.cell (p := ⟨w.heap.size, 3, none⟩) hlt0, hu.cell (p := ⟨w.heap.size, 4, none⟩) hlt0]
    exact hc0
  have HK : Hid (KnA w0 ad ∧ Up w w0 ∧ Rw w0 (.slice aL L.length cL) L) := ⟨hk.up hu0, hu0, hL.up hu0⟩
  have HCopy : Hid (∀ u, Up w0 u → Calls Tryd.prog 15 #[.slice aL L.length cL] u fun e w' => ∃ v' vs, e = .returned v' ∧ RecsO w' u.heap.size v' L vs ∧ Up u w') := fun u hu => copied_any _ L u (HK.out.2.2.up hu) (by omega) hl
  clear hk hL hu0 hc0 hlt0
  go_enter Tryd.func12, Tryd.ntmps12
  go_wp2_with fail
  have hs := Up.drew w0
  clear hc00
  refine wp_region_held_drew (S := fun u => Up w0 u) (by kernel_rfl) hs (fun hs0 => ?_)
  refine take_to (some 84) (i := 0) (v := .pointer (some ⟨w.heap.size, 1, none⟩)) rfl rfl (by kernel_rfl) (by kernel_rfl) (by kernel_rfl) (fun _ _ _ h => h) (Or.inl ⟨by kernel_rfl, by intro u hSu; go_simp⟩) hs ?_
  simp only [Act.put, List.setIfInBounds_toArray, List.set_cons_zero, List.set_cons_succ]
  refine take_to (some 85) (i := 1) (v := .int .u64 (f : Int)) rfl rfl (by kernel_rfl) (by kernel_rfl) (by kernel_rfl) (fun _ _ _ h => h) (Or.inl ⟨by kernel_rfl, by intro u hSu; have q := HCell.out u hSu; obtain ⟨q1, q2, q3, q4⟩ := q; go_simp⟩) hs ?_
  simp only [Act.put, List.setIfInBounds_toArray, List.set_cons_zero, List.set_cons_succ]
  refine take_to (some 86) (i := 2) (v := .pointer (some ⟨w.heap.size, 2, none⟩)) rfl rfl (by kernel_rfl) (by kernel_rfl) (by kernel_rfl) (fun _ _ _ h => h) (Or.inl ⟨by kernel_rfl, by intro u hSu; go_simp⟩) hs ?_
  simp only [Act.put, List.setIfInBounds_toArray, List.set_cons_zero, List.set_cons_succ]
  refine take_to (some 87) (i := 3) (v := .slice aL L.length cL) rfl rfl (by kernel_rfl) (by kernel_rfl) (by kernel_rfl) (fun _ _ _ h => h) (Or.inl ⟨by kernel_rfl, by intro u hSu; have q := HCell.out u hSu; obtain ⟨q1, q2, q3, q4⟩ := q; go_simp⟩) hs ?_
  simp only [Act.put, List.setIfInBounds_toArray, List.set_cons_zero, List.set_cons_succ]
  refine wpAnyH_ready (rs := [4]) (by kernel_rfl) (by simp) ?_
  refine AllReadyH.cons rfl (fun K hK => ?_) AllReadyH.nil
  go_simp
  refine (HCopy.out _ hs).mono ?_
  rintro e w1 ⟨v1, vs1, rfl, r1, u1⟩
  obtain ⟨a1, c1, rfl⟩ := r1.recs.slice
  replace hs : Up w0 w1 := hs.trans u1
  refine hK.out _ _ hs (fun _ => ?_)
  clear hK K
  refine wpAnyH_ready (rs := [5]) (by kernel_rfl) (by simp) ?_
  refine AllReadyH.cons rfl (fun K hK => ?_) AllReadyH.nil
  go_simp
  refine (Pack_any f (.slice a1 L.length c1) L w1 ad (HK.out.1.up hs).1.tb (HK.out.1.up hs).1.gl hf r1.recs.rw (by omega)).mono ?_
  rintro e w2 ⟨v2, rfl, o2, u2⟩
  obtain ⟨a2, c2, rfl⟩ := own_len o2
  replace hs : Up w0 w2 := hs.trans u2
  refine hK.out _ _ hs (fun _ => ?_)
  clear hK K
  refine take_to (some 83) (i := 6) (v := .tuple #[.slice a2 (pkR f L).length c2, pkE ad f L]) rfl rfl (by kernel_rfl) (by kernel_rfl) (by kernel_rfl) (fun _ _ _ h => h) (Or.inl ⟨by kernel_rfl, by intro u hSu; go_simp⟩) hs ?_
  simp only [Act.put, List.setIfInBounds_toArray, List.set_cons_zero, List.set_cons_succ]
  refine take_to (some 90) (i := 7) (v := .slice a2 (pkR f L).length c2) rfl rfl (by kernel_rfl) (by kernel_rfl) (by kernel_rfl) (fun _ _ _ h => h) (Or.inl ⟨by kernel_rfl, by intro u hSu; go_simp⟩) hs ?_
  simp only [Act.put, List.setIfInBounds_toArray, List.set_cons_zero, List.set_cons_succ]
  refine take_to (some 91) (i := 8) (v := pkE ad f L) rfl rfl (by kernel_rfl) (by kernel_rfl) (by kernel_rfl) (fun _ _ _ h => h) (Or.inl ⟨by kernel_rfl, by intro u hSu; go_simp⟩) hs ?_
  simp only [Act.put, List.setIfInBounds_toArray, List.set_cons_zero, List.set_cons_succ]
  refine take_to (some 13) (i := 9) (v := .slice a2 (pkR f L).length c2) rfl rfl (by kernel_rfl) (by kernel_rfl) (by kernel_rfl) (fun _ _ _ h => h) (Or.inl ⟨by kernel_rfl, by intro u hSu; go_simp⟩) hs ?_
  simp only [Act.put, List.setIfInBounds_toArray, List.set_cons_zero, List.set_cons_succ]
  refine take_to (some 14) (i := 10) (v := pkE ad f L) rfl rfl (by kernel_rfl) (by kernel_rfl) (by kernel_rfl) (fun _ _ _ h => h) (Or.inl ⟨by kernel_rfl, by intro u hSu; go_simp⟩) hs ?_
  simp only [Act.put, List.setIfInBounds_toArray, List.set_cons_zero, List.set_cons_succ]
  refine wpAnyH_done (by kernel_rfl) ?_ _
  have HO : Hid (Own w2 5 w1.heap.size (.slice a2 (pkR f L).length c2) (pkR f L) ∧ (pkR f L).length ≤ 1000000000000) := ⟨o2, by have := pkR_le f L; omega⟩
  obtain ⟨q1, q2, q3, q4⟩ := HCell.out w2 hs
  clear o2 u2 u1 r1 hw0
  go_wp2_with fail
  refine (rPack_any f (.slice aL L.length cL) L w2 hf (HK.out.2.2.up hs) (by omega)).mono ?_
  rintro e w3 ⟨v3, rfl, o3, u3⟩
  have U3 : Up w0 w3 := hs.trans u3
  obtain ⟨a3, c3, rfl⟩ := own_len o3
  go_wp2_with fail
  refine (Is_pk f L w3 ad (HK.out.1.up U3).2).mono ?_
  rintro e w4 ⟨rfl, e4⟩
  obtain rfl : w3 = w4 := e4.symm
  have hsm := same_any 0 0 _ _ (pkR f L) (pkR f L) w3 ((HO.out.1.sl.up u3).mono (Nat.zero_le _)) (o3.sl.mono (Nat.zero_le _)) (by have := HO.out.2; omega) (by have := HO.out.2; omega)
  rw [decide_eq_true rfl] at hsm
  clear q1 q2 q3 q4 o3 u3 HCell HCopy
  go_wp2_with fail
  refine hsm.mono ?_
  rintro e w5 ⟨rfl, n, e5⟩
  have U5 : Up w w5 := by rw [e5]; exact (HK.out.2.1.trans U3).trans (up_drewN _ _)
  clear hsm e5
  go_wp2
  go_ret
  exact ⟨rfl, U5⟩
end Go.Proofs.YtoljalolfdnghaaDoor
