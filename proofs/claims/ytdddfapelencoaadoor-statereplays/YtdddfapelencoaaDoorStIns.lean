/- state: the library's Insert over entries, one entry. Own work. -/
import Derived.Test.YtdddfapelencoaaDoorStCopy
import Derived.Test.YtdddfapelencoaaDoorDkIns0
import Derived.Test.YtdddfapelencoaaDoorStStep
import Derived.Lib.Overlaps
import Derived.Lib.AppendZerosOnto
set_option linter.unusedVariables false
set_option linter.unusedSimpArgs false
namespace Go.Proofs.YtdddfapelencoaaDoor
open Go Go.RowKit

theorem EC_one (x : Ent) : ∀ u ∈ EC x, u.oneCell' = true := fun u hu => Ecs_one [x] u (by simpa [Ecs] using hu)
theorem drewS_setCells (b : Nat) : ∀ (vs : List Value) (o : Nat) (w : World), (w.setCells b o vs).drew = w.drew.setCells b o vs
  | [], _, _ => rfl
  | v :: r, o, w => by rw [World.setCells, World.setCells, drewS_setCells b r]; rfl
theorem Tryd.szEnt : (Tryd.prog.info? 58).map (·.size) = some 9 := by kernel_rfl

/-- At the end. -/
theorem insert_end (base : Nat) (v : Value) (xs : List Ent) (x : Ent) (vb : Nat) (w : World) (h : OwnE w base v xs) (hl : xs.length ≤ 100000000000) (hbase : base ≤ w.heap.size) (hvb : w.heap[vb]? = some (.cells (EC x).toArray 58 (0, 0))) :
    Calls Tryd.prog 64 #[v, .int .i64 (xs.length : Int), .slice (some ⟨vb, 0, none⟩) 1 1] w fun e w' => ∃ v', e = .returned v' ∧ OwnE w' base v' (xs ++ [x]) ∧ w.grownBy w' v.ownBlock := by
  have hsv : SlE w (.slice (some ⟨vb, 0, none⟩) [x].length 1) [x] := ⟨_, 1, rfl, Nat.le_refl _, (by intro e; cases e), fun _ => ⟨vb, 0, rfl, row_ents (n := 9) hvb (by rfl)⟩⟩
  have hh := h
  obtain ⟨a0, c0, rfl⟩ := h.shape
  obtain ⟨N, hN⟩ : ∃ N, xs.length = N := ⟨_, rfl⟩
  have HN : Hid (xs.length = N) := hN
  have hc0 : N ≤ c0 := by
    obtain ⟨ao, cap, e, hc, _⟩ := h.sl
    simp only [Value.slice.injEq] at e
    omega
  rw [hN] at hl hh ⊢
  have h1 : (N : Int) ≤ 100000000000 := by omega
  have h2 : ¬ (N : Int) < (N : Int) := by omega
  clear h hN
  rcases Decidable.em (c0 = N) with hcN | hcN
  · subst hcN
    go_enter Tryd.func64, Tryd.ntmps64
    go_wp2_with (at_builtin; refine wpList_appE _ rfl (.tmp 23) (.tmp 24) rfl base _ xs [x] rfl ⟨vb, 0, none⟩ 1 rfl hh hsv hbase (by have := HN.out; simp; omega) ?_)
    intro v' w' ho hb
    go_wp2
    go_ret
    exact ⟨_, rfl, ho, hb⟩
  · go_enter Tryd.func64, Tryd.ntmps64
    go_wp2_with (at_builtin; refine wpList_appE _ rfl (.tmp 23) (.tmp 24) rfl base _ xs [x] rfl ⟨vb, 0, none⟩ 1 rfl hh hsv hbase (by have := HN.out; simp; omega) ?_)
    intro v' w' ho hb
    go_wp2
    go_ret
    exact ⟨_, rfl, ho, hb⟩

set_option maxRecDepth 100000 in
set_option maxHeartbeats 1600000 in
/-- In place. -/
theorem insert_shift (g cap N i vb : Nat) (xs : List Ent) (x : Ent) (cur : Array Value) (w : World) (hN : xs.length = N) (hi : i < N) (hl : N ≤ 100000000000) (hg : w.heap[g]? = some (.cells cur 58 (0, 0))) (hroom : N + 1 ≤ cap) (hcm : cap ≤ maxLen) (hcs : cur.size = cap * 9) (ht : cur.toList.take (N * 9) = Ecs xs)
    (hvb : w.heap[vb]? = some (.cells (EC x).toArray 58 (0, 0))) (hne : vb ≠ g) :
    Calls Tryd.prog 64 #[.slice (some ⟨g, 0, none⟩) N cap, .int .i64 (i : Int), .slice (some ⟨vb, 0, none⟩) 1 1] w fun e w' =>
      e = .returned (.slice (some ⟨g, 0, none⟩) (N + 1) cap) ∧ w' = (w.drew.setCells g ((i + 1) * 9) (Ecs (xs.drop i))).setCells g (i * 9) (EC x) := by
  have hlen : cur.size = cap * 9 := hcs
  have hsome : ∀ j, j < cap * 9 → (w.cell? ⟨g, j, none⟩).isSome = true := fun j hj => by rw [cell_of_row w g j cur _ (0, 0) hg, Array.getElem?_eq_getElem (by omega)]; rfl
  have hfz : ∀ j, w.frozen? ⟨g, j, none⟩ = false := fun j => by simp [World.frozen?, hg]
  have hdl : (Ecs (xs.drop i)).length = (N - i) * 9 := by rw [Ecs_length, List.length_drop, hN]
  have hov : ∀ lb cb, (callFunc 73 #[.slice (some ⟨vb, 0, none⟩) 1 1, .slice (some ⟨g, (i + 1) * 9, none⟩) lb cb]).run Tryd.prog w = .ok (.value (.bool false)) w := fun lb cb => by
    rw [run_callFunc_extern Tryd.func73 (by kernel_rfl) (by kernel_rfl) (by kernel_rfl) (e := Extern.SlicesOverlaps.overlaps #[25, 25] #[4]) (by kernel_rfl),
      Lib.run_overlaps_apart w 25 4 58 Tryd.underlying25 9 (fun u => by obtain ⟨i0, hi0, hz0, hz1, hz2⟩ := info_parts Tryd.infoEnt; simp [sizeOf, typeInfo, hi0, hz1]) ⟨vb, 0, none⟩ ⟨g, (i + 1) * 9, none⟩ 1 1 lb cb hne 58 58 9 (cap * 9) (by simp [World.shape?, hvb]) (by simp [World.shape?, hg, hcs]) (by omega) (by simp [World.frozen?, hvb]) (by simp [World.frozen?, hvb])]
    rfl
  have hcp1 : ∀ ty dc sc, (Builtin.copy_ #[25, 25] ty #[.slice (some ⟨g, (i + 1) * 9, none⟩) (N - i) dc, .slice (some ⟨g, i * 9, none⟩) (N + 1 - i) sc]).run Tryd.prog w.drew = .ok (goInt ((N - i : Nat) : Int)) (w.drew.setCells g ((i + 1) * 9) (Ecs (xs.drop i))) := fun ty dc sc =>
    run_copyK w.drew _ _ ty 58 9 g ((i + 1) * 9) (N - i) dc ⟨g, i * 9, none⟩ (N + 1 - i) sc (N - i) _ Tryd.underlying25 Tryd.szEnt (by simp only [Nat.min_def]; split <;> omega) hdl
      (fun j u hu => by
        rw [Addr.add_lit]
        show w.cell? ⟨g, i * 9 + j, none⟩ = _
        have := row_ents hg ht (i * 9 + j) u (by rw [← hu, ← Ecs_drop, List.getElem?_drop])
        rwa [Nat.zero_add] at this)
      (fun j hj => hsome _ (by rw [hdl] at hj; omega)) (fun j hj => hfz _) (Ecs_one _)
  obtain ⟨W1, hW1⟩ : ∃ W1, w.drew.setCells g ((i + 1) * 9) (Ecs (xs.drop i)) = W1 := ⟨_, rfl⟩
  have h1 := heap_setCells g 58 (Ecs (xs.drop i)) ((i + 1) * 9) w.drew cur hg (by rw [hdl]; omega)
  rw [hW1] at h1
  have hv1 : W1.heap[vb]? = some (.cells (EC x).toArray 58 (0, 0)) := by
    rw [← hW1, (touch_setCells (g := g) (S := [g]) (Ecs (xs.drop i)) ((i + 1) * 9) (Touch.refl w.drew [g]) (.inl (by simp))).block vb (Array.getElem?_eq_some_iff.1 hvb).1 (by simpa using hne)]
    exact hvb
  have hsz1 : (cur.toList.take ((i + 1) * 9) ++ Ecs (xs.drop i) ++ cur.toList.drop ((i + 1) * 9 + (Ecs (xs.drop i)).length)).toArray.size = cap * 9 := by
    simp only [List.size_toArray, List.length_append, List.length_take, List.length_drop, Array.length_toList, hdl]
    omega
  have hcp2 : ∀ (W : World), W.heap = W1.heap → ∀ ty dc, (Builtin.copy_ #[25, 25] ty #[.slice (some ⟨g, i * 9, none⟩) (N + 1 - i) dc, .slice (some ⟨vb, 0, none⟩) 1 1]).run Tryd.prog W = .ok (goInt 1) (W.setCells g (i * 9) (EC x)) := fun W hW ty dc =>
    run_copyK W _ _ ty 58 9 g (i * 9) (N + 1 - i) dc ⟨vb, 0, none⟩ 1 1 1 (EC x) Tryd.underlying25 Tryd.szEnt (by simp only [Nat.min_def]; split <;> omega) rfl
      (fun j u hu => by rw [Addr.add_lit, cell_of_row W vb (0 + j) _ _ (0, 0) (by rw [hW]; exact hv1), Nat.zero_add]; simpa using hu)
      (fun j hj => by rw [cell_of_row W g _ _ _ (0, 0) (by rw [hW]; exact h1), Array.getElem?_eq_getElem (by rw [hsz1]; simp at hj; omega)]; rfl)
      (fun j hj => by
        have q := h1
        rw [← hW] at q
        simp [World.frozen?, q]) (EC_one x)
  have k1 : ¬ ((i : Int) = (N : Int)) := by omega
  have k2 : ((i : Int) == (N : Int)) = false := by simp only [beq_eq_false_iff_ne]; omega
  have k3 : ¬ (cap : Int) < (N : Int) + 1 := by omega
  have k4 : (cap : Int) ≤ 9223372036854775807 := by unfold maxLen at hcm; omega
  have k5 : ¬ (cap = i + 1) := by omega
  have k6 : ¬ (cap = i) := by omega
  have k7 : (i : Int) ≤ (N : Int) := by omega
  have k8 : ((i : Int) + 1).toNat = i + 1 := by omega
  have k9 : ((N : Int) + 1).toNat = N + 1 := by omega
  have k10 : (N : Int) ≤ 100000000000 := by omega
  have k11 : ¬ (N : Int) < (i : Int) := by omega
  have k12 : ¬ (cap = N) := by omega
  have m1 : IntKind.i64.wrap ((i : Int) + 1) = (i : Int) + 1 := by rw [IntKind.wrap_i64]; omega
  have m2 : ¬ (i : Int) + 1 < 0 := by omega
  have m3 : ¬ (N : Int) + 1 < (i : Int) + 1 := by omega
  have m4 : ¬ N + 1 < i + 1 := by omega
  have m5 : ¬ (N : Int) + 1 < (i : Int) := by omega
  have m6 : ¬ N + 1 < i := by omega
  clear hsome hfz hdl hg ht hvb hv1 h1 hsz1 hcs hlen hcm hl
  rw [hW1] at hcp1 ⊢
  go_enter Tryd.func64, Tryd.ntmps64
  go_wp2_with (simp only [hov])
  refine wp_region_any (by kernel_rfl) ?_
  refine take_any (some 69) (i := 0) (v := .slice (some ⟨g, 0, none⟩) (N + 1) cap) rfl rfl (by kernel_rfl) (by kernel_rfl) (by kernel_rfl) (fun _ _ _ h => h) (Or.inl ⟨by kernel_rfl, by intro w; go_simp⟩) ?_
  simp only [Act.put, List.setIfInBounds_toArray, List.set_cons_zero, List.set_cons_succ]
  refine take_any (some 70) (i := 1) (v := .int .i64 (i : Int)) rfl rfl (by kernel_rfl) (by kernel_rfl) (by kernel_rfl) (fun _ _ _ h => h) (Or.inl ⟨by kernel_rfl, by intro w; go_simp⟩) ?_
  simp only [Act.put, List.setIfInBounds_toArray, List.set_cons_zero, List.set_cons_succ]
  refine take_any (some 71) (i := 2) (v := .int .i64 1) rfl rfl (by kernel_rfl) (by kernel_rfl) (by kernel_rfl) (fun _ _ _ h => h) (Or.inl ⟨by kernel_rfl, by intro w; go_simp⟩) ?_
  simp only [Act.put, List.setIfInBounds_toArray, List.set_cons_zero, List.set_cons_succ]
  refine take_any (some 72) (i := 3) (v := .int .i64 ((i : Int) + 1)) rfl rfl (by kernel_rfl) (by kernel_rfl) (by kernel_rfl) (fun _ _ _ h => h) (Or.inl ⟨by kernel_rfl, by intro w; go_simp⟩) ?_
  simp only [Act.put, List.setIfInBounds_toArray, List.set_cons_zero, List.set_cons_succ]
  refine take_any (some 73) (i := 4) (v := .slice (some ⟨g, (i + 1) * 9, none⟩) (N - i) (cap - (i + 1))) rfl rfl (by kernel_rfl) (by kernel_rfl) (by kernel_rfl) (fun _ _ _ h => h) (Or.inl ⟨by kernel_rfl, by intro w; go_simp⟩) ?_
  simp only [Act.put, List.setIfInBounds_toArray, List.set_cons_zero, List.set_cons_succ]
  refine take_any (some 74) (i := 5) (v := .slice (some ⟨g, 0, none⟩) (N + 1) cap) rfl rfl (by kernel_rfl) (by kernel_rfl) (by kernel_rfl) (fun _ _ _ h => h) (Or.inl ⟨by kernel_rfl, by intro w; go_simp⟩) ?_
  simp only [Act.put, List.setIfInBounds_toArray, List.set_cons_zero, List.set_cons_succ]
  refine take_any (some 75) (i := 6) (v := .int .i64 (i : Int)) rfl rfl (by kernel_rfl) (by kernel_rfl) (by kernel_rfl) (fun _ _ _ h => h) (Or.inl ⟨by kernel_rfl, by intro w; go_simp⟩) ?_
  simp only [Act.put, List.setIfInBounds_toArray, List.set_cons_zero, List.set_cons_succ]
  refine take_any (some 76) (i := 7) (v := .slice (some ⟨g, i * 9, none⟩) (N + 1 - i) (cap - i)) rfl rfl (by kernel_rfl) (by kernel_rfl) (by kernel_rfl) (fun _ _ _ h => h) (Or.inl ⟨by kernel_rfl, by intro w; go_simp⟩) ?_
  simp only [Act.put, List.setIfInBounds_toArray, List.set_cons_zero, List.set_cons_succ]
  refine wpAny_ready (rs := [8]) (by kernel_rfl) (by simp) ?_
  refine AllReady.cons rfl (fun K hK => ?_) AllReady.nil
  refine step_copy_runI rfl (.tmp 73) (.tmp 76) 25 25 rfl _ _ rfl rfl (hcp1 _ _ _) ?_
  refine hK _ _ ?_
  clear hK K
  simp only [Act.put, List.setIfInBounds_toArray, List.set_cons_zero, List.set_cons_succ]
  refine wpAny_done (by kernel_rfl) ?_ _
  go_wp2_with (at_builtin; refine wpList_copy_runI _ rfl _ _ 25 25 rfl _ _ rfl rfl (hcp2 _ rfl _ _) ?_)
  go_ret
  exact ⟨rfl, rfl⟩

set_option maxRecDepth 100000 in
set_option maxHeartbeats 1600000 in
/-- A new row. -/
theorem insert_grow (g cap N i vb : Nat) (xs : List Ent) (x : Ent) (cur : Array Value) (w : World) (hN : xs.length = N) (hi : i < N) (hl : N ≤ 100000000000) (hg : w.heap[g]? = some (.cells cur 58 (0, 0))) (hnc : N ≤ cap) (hroom : cap < N + 1) (hcm : cap ≤ maxLen) (hcs : cur.size = cap * 9) (ht : cur.toList.take (N * 9) = Ecs xs)
    (hvb : w.heap[vb]? = some (.cells (EC x).toArray 58 (0, 0))) :
    Calls Tryd.prog 64 #[.slice (some ⟨g, 0, none⟩) N cap, .int .i64 (i : Int), .slice (some ⟨vb, 0, none⟩) 1 1] w fun e w' =>
      ∃ G cs, e = .returned (.slice (some ⟨w.heap.size, 0, none⟩) (N + 1) G) ∧ Up w w' ∧ w'.heap[w.heap.size]? = some (.cells cs 58 (0, 0)) ∧ N + 1 ≤ G ∧ G ≤ maxLen ∧ cs.size = G * 9 ∧ cs.toList.take ((N + 1) * 9) = Ecs (xs.take i ++ x :: xs.drop i) := by
  obtain ⟨i0, hi0, hz0, hz1, hz2⟩ := info_parts Tryd.infoEnt
  have hgl : g < w.heap.size := (Array.getElem?_eq_some_iff.1 hg).1
  have hvl : vb < w.heap.size := (Array.getElem?_eq_some_iff.1 hvb).1
  have hti : (Ecs (xs.take i)).length = i * 9 := by rw [Ecs_length, List.length_take]; omega
  have hdl : (Ecs (xs.drop i)).length = (N - i) * 9 := by rw [Ecs_length, List.length_drop, hN]
  have hold : (Builtin.firstCells i0.size i (.slice (some ⟨g, 0, none⟩) i cap)).run Tryd.prog w.drew = .ok (Ecs (xs.take i)).toArray w.drew := run_firstCells_some w.drew i0.size i ⟨g, 0, none⟩ i cap (Ecs (xs.take i)) (by rw [hz1]; exact hti) (fun j u hu => by
    rw [Addr.add_lit]
    show w.cell? ⟨g, 0 + j, none⟩ = _
    refine row_ents hg ht j u ?_
    rw [← Ecs_take, List.getElem?_take] at hu
    split at hu
    · exact hu
    · cases hu)
  obtain ⟨G, hG⟩ : ∃ G, grownCap w (N + 1) cap 58 = G := ⟨_, rfl⟩
  have hGn : N + 1 ≤ G := by rw [← hG]; exact grownCap_ge w _ _ _
  have hGm : G ≤ maxLen := by rw [← hG]; exact grownCap_le_maxLen w (N + 1) cap _ (by unfold maxLen; omega)
  obtain ⟨ROW, hROW⟩ : ∃ ROW : Array Value, (Ecs (xs.take i)).toArray ++ Builtin.zeroCells (Value.agg #[.string ⟨#[]⟩, .int .i64 0, Z, Z, Z, Z, Z, Z, Z]).cells (N + 1 - i) ++ Builtin.zeroCells (Value.agg #[.string ⟨#[]⟩, .int .i64 0, Z, Z, Z, Z, Z, Z, Z]).cells (G - (N + 1)) = ROW := ⟨_, rfl⟩
  have hRs : ROW.size = G * 9 := by
    rw [← hROW, Array.size_append, Array.size_append, size_zeroCells, size_zeroCells]
    simp [Value.cells, hti]
    omega
  have hRt : ROW.toList.take (i * 9) = Ecs (xs.take i) := by
    rw [← hROW]
    simp only [Array.toList_append, List.append_assoc]
    rw [List.take_append_of_le_length (by rw [hti]; exact Nat.le_refl _), List.take_of_length_le (by rw [hti]; exact Nat.le_refl _)]
  have hrz : ∀ ty, (Builtin.append_ #[25, 3] ty #[.slice (some ⟨g, 0, none⟩) i cap, .int .i64 ((N : Int) + 1 - (i : Int))]).run Tryd.prog w = .ok (.slice (some ⟨w.heap.size, 0, none⟩) (N + 1) G) (w.drew.alloc (.cells ROW 58)) := fun ty => by
    have h := Lib.run_append_grow_zeros w 25 3 ty 58 i0 _ .i64 .i64 Tryd.underlying25 Tryd.underlying3 hi0 hz0 (some ⟨g, 0, none⟩) i cap (Ecs (xs.take i)) hold (N + 1 - i) (by omega) (by omega) (by omega) (by omega) (by rw [hz2]; omega) (by
      rw [hz2, show i + (N + 1 - i) = N + 1 by omega]
      exact growslice_fits_wide hroom (by omega))
    rw [show i + (N + 1 - i) = N + 1 by omega, hG, hROW] at h
    rw [show (N : Int) + 1 - (i : Int) = ((N + 1 - i : Nat) : Int) by omega]
    exact h
  obtain ⟨B, hB⟩ : ∃ B, w.heap.size = B := ⟨_, rfl⟩
  obtain ⟨W1, hW1⟩ : ∃ W1, w.drew.alloc (.cells ROW 58) = W1 := ⟨_, rfl⟩
  have h1 : W1.heap[B]? = some (.cells ROW 58 (0, 0)) := by rw [← hW1, ← hB]; exact heap_alloc_new w.drew _
  have u1 : Up w W1 := by rw [← hW1]; exact (Up.drew w).trans (Up.alloc _ _)
  have hv1 : W1.heap[vb]? = some (.cells (EC x).toArray 58 (0, 0)) := (u1.block vb hvl).trans hvb
  have hg1 : W1.heap[g]? = some (.cells cur 58 (0, 0)) := (u1.block g hgl).trans hg
  have hcpA : ∀ ty dc, (Builtin.copy_ #[25, 25] ty #[.slice (some ⟨B, i * 9, none⟩) (N + 1 - i) dc, .slice (some ⟨vb, 0, none⟩) 1 1]).run Tryd.prog W1 = .ok (goInt 1) (W1.setCells B (i * 9) (EC x)) := fun ty dc =>
    run_copyK W1 _ _ ty 58 9 B (i * 9) (N + 1 - i) dc ⟨vb, 0, none⟩ 1 1 1 (EC x) Tryd.underlying25 Tryd.szEnt (by simp only [Nat.min_def]; split <;> omega) rfl
      (fun j u hu => by rw [Addr.add_lit, cell_of_row W1 vb (0 + j) _ _ (0, 0) hv1, Nat.zero_add]; simpa using hu)
      (fun j hj => by rw [cell_of_row W1 B _ _ _ (0, 0) h1, Array.getElem?_eq_getElem (by rw [hRs]; simp at hj; omega)]; rfl)
      (fun j hj => by simp [World.frozen?, h1]) (EC_one x)
  obtain ⟨W2, hW2⟩ : ∃ W2, W1.setCells B (i * 9) (EC x) = W2 := ⟨_, rfl⟩
  have h2 := heap_setCells B 58 (EC x) (i * 9) W1 ROW h1 (by rw [hRs]; simp; omega)
  have t2 : Touch w W2 [B] := by rw [← hW2]; exact touch_setCells _ _ (Touch.of_up u1 _) (.inl (by simp))
  rw [hW2] at h2
  obtain ⟨R2, hR2⟩ : ∃ R2 : List Value, ROW.toList.take (i * 9) ++ EC x ++ ROW.toList.drop (i * 9 + (EC x).length) = R2 := ⟨_, rfl⟩
  rw [hR2] at h2
  have hR2s : R2.length = G * 9 := by
    rw [← hR2]
    simp only [List.length_append, List.length_take, List.length_drop, Array.length_toList, hRs, List.length_cons, List.length_nil]
    omega
  have hR2t : R2.take ((i + 1) * 9) = Ecs (xs.take i ++ [x]) := by
    rw [← hR2, hRt, Ecs_app]
    rw [List.take_append_of_le_length (by rw [List.length_append, hti]; simp; omega), List.take_of_length_le (by rw [List.length_append, hti]; simp; omega)]
    rfl
  have hg2 : W2.heap[g]? = some (.cells cur 58 (0, 0)) := (t2.block g hgl (by simp; omega)).trans hg
  have hcpB : ∀ ty dc sc, (Builtin.copy_ #[25, 25] ty #[.slice (some ⟨B, (i + 1) * 9, none⟩) (N - i) dc, .slice (some ⟨g, i * 9, none⟩) (N - i) sc]).run Tryd.prog W2.drew = .ok (goInt ((N - i : Nat) : Int)) (W2.drew.setCells B ((i + 1) * 9) (Ecs (xs.drop i))) := fun ty dc sc =>
    run_copyK W2.drew _ _ ty 58 9 B ((i + 1) * 9) (N - i) dc ⟨g, i * 9, none⟩ (N - i) sc (N - i) _ Tryd.underlying25 Tryd.szEnt (by simp) hdl
      (fun j u hu => by
        rw [Addr.add_lit]
        show W2.cell? ⟨g, i * 9 + j, none⟩ = _
        have := row_ents hg2 ht (i * 9 + j) u (by rw [← hu, ← Ecs_drop, List.getElem?_drop])
        rwa [Nat.zero_add] at this)
      (fun j hj => by
        show (W2.cell? _).isSome = true
        rw [cell_of_row W2 B _ _ _ (0, 0) h2, Array.getElem?_eq_getElem (by simp only [List.size_toArray, hR2s]; rw [hdl] at hj; omega)]; rfl)
      (fun j hj => by
        show W2.frozen? _ = false
        simp [World.frozen?, h2]) (Ecs_one _)
  have h3 := heap_setCells B 58 (Ecs (xs.drop i)) ((i + 1) * 9) W2.drew R2.toArray h2 (by simp only [List.size_toArray, hR2s, hdl]; omega)
  have FIN : Hid (Up w (W2.drew.setCells B ((i + 1) * 9) (Ecs (xs.drop i))) ∧ ∃ cs, (W2.drew.setCells B ((i + 1) * 9) (Ecs (xs.drop i))).heap[B]? = some (.cells cs 58 (0, 0)) ∧ N + 1 ≤ G ∧ G ≤ maxLen ∧ cs.size = G * 9 ∧ cs.toList.take ((N + 1) * 9) = Ecs (xs.take i ++ x :: xs.drop i)) := by
    refine ⟨Touch.up (S := [B]) (touch_setCells _ _ (Touch.drew t2) (.inl (by simp))) (fun k hk => by simp at hk; omega), _, h3, hGn, hGm, ?_, ?_⟩
    · simp only [List.size_toArray, List.length_append, List.length_take, List.length_drop, hR2s, hdl]
      omega
    · show List.take _ (R2.take ((i + 1) * 9) ++ _ ++ _) = _
      have e : xs.take i ++ x :: xs.drop i = (xs.take i ++ [x]) ++ xs.drop i := by simp
      have el : (Ecs ((xs.take i ++ [x]) ++ xs.drop i)).length = (N + 1) * 9 := by
        rw [Ecs_length, List.length_append, List.length_append, List.length_take, List.length_drop]
        simp
        omega
      rw [hR2t, e, ← Ecs_app, List.take_append_of_le_length (by rw [el]; exact Nat.le_refl _), List.take_of_length_le (by rw [el]; exact Nat.le_refl _)]
  obtain ⟨W3, hW3⟩ : ∃ W3, W2.drew.setCells B ((i + 1) * 9) (Ecs (xs.drop i)) = W3 := ⟨_, rfl⟩
  rw [hB, hW1] at hrz
  rw [hW2] at hcpA
  rw [hW3] at hcpB FIN
  rw [hB]
  have k1 : ¬ ((i : Int) = (N : Int)) := by omega
  have k2 : ((i : Int) == (N : Int)) = false := by simp only [beq_eq_false_iff_ne]; omega
  have k3 : (cap : Int) < (N : Int) + 1 := by omega
  have k4 : (cap : Int) ≤ 9223372036854775807 := by unfold maxLen at hcm; omega
  have k4b : (G : Int) ≤ 9223372036854775807 := by unfold maxLen at hGm; omega
  have k5 : ¬ (G = i + 1) := by omega
  have k6 : ¬ (cap = i) := by omega
  have k6b : ¬ (G = i) := by omega
  have k7 : (i : Int) ≤ (N : Int) := by omega
  have k8 : ((i : Int) + 1).toNat = i + 1 := by omega
  have k10 : (N : Int) ≤ 100000000000 := by omega
  have k11 : ¬ (N : Int) < (i : Int) := by omega
  have m1 : IntKind.i64.wrap ((i : Int) + 1) = (i : Int) + 1 := by rw [IntKind.wrap_i64]; omega
  have m2 : ¬ (i : Int) + 1 < 0 := by omega
  have m3 : ¬ (N : Int) + 1 < (i : Int) + 1 := by omega
  have m4 : ¬ N + 1 < i + 1 := by omega
  have m5 : ¬ (N : Int) + 1 < (i : Int) := by omega
  have m6 : ¬ N + 1 < i := by omega
  have m7 : ¬ N < i := by omega
  clear hold hROW hRs hRt h1 h2 h3 hR2 hR2s hR2t hv1 hg1 hg2 t2 u1 hW1 hW2 hW3 hdl hti hgl hvl hg hvb hG hi0 hz0 hz1 hz2 hcs ht hcm hl hGm
  go_enter Tryd.func64, Tryd.ntmps64
  go_wp2_with (first
    | (at_builtin; refine Lib.wpList_append_run _ rfl _ _ _ _ rfl _ _ rfl rfl _ _ (hrz _) ?_)
    | (at_builtin; refine wpList_copy_runI _ rfl _ _ 25 25 rfl _ _ rfl rfl (hcpA _ _) ?_))
  refine wp_region_any (by kernel_rfl) ?_
  refine take_any (some 46) (i := 0) (v := .slice (some ⟨B, 0, none⟩) (N + 1) G) rfl rfl (by kernel_rfl) (by kernel_rfl) (by kernel_rfl) (fun _ _ _ h => h) (Or.inl ⟨by kernel_rfl, by intro w; go_simp⟩) ?_
  simp only [Act.put, List.setIfInBounds_toArray, List.set_cons_zero, List.set_cons_succ]
  refine take_any (some 47) (i := 1) (v := .int .i64 (i : Int)) rfl rfl (by kernel_rfl) (by kernel_rfl) (by kernel_rfl) (fun _ _ _ h => h) (Or.inl ⟨by kernel_rfl, by intro w; go_simp⟩) ?_
  simp only [Act.put, List.setIfInBounds_toArray, List.set_cons_zero, List.set_cons_succ]
  refine take_any (some 48) (i := 2) (v := .int .i64 1) rfl rfl (by kernel_rfl) (by kernel_rfl) (by kernel_rfl) (fun _ _ _ h => h) (Or.inl ⟨by kernel_rfl, by intro w; go_simp⟩) ?_
  simp only [Act.put, List.setIfInBounds_toArray, List.set_cons_zero, List.set_cons_succ]
  refine take_any (some 49) (i := 3) (v := .int .i64 ((i : Int) + 1)) rfl rfl (by kernel_rfl) (by kernel_rfl) (by kernel_rfl) (fun _ _ _ h => h) (Or.inl ⟨by kernel_rfl, by intro w; go_simp⟩) ?_
  simp only [Act.put, List.setIfInBounds_toArray, List.set_cons_zero, List.set_cons_succ]
  refine take_any (some 50) (i := 4) (v := .slice (some ⟨B, (i + 1) * 9, none⟩) (N - i) (G - (i + 1))) rfl rfl (by kernel_rfl) (by kernel_rfl) (by kernel_rfl) (fun _ _ _ h => h) (Or.inl ⟨by kernel_rfl, by intro w; go_simp⟩) ?_
  simp only [Act.put, List.setIfInBounds_toArray, List.set_cons_zero, List.set_cons_succ]
  refine take_any (some 51) (i := 5) (v := .slice (some ⟨g, 0, none⟩) N cap) rfl rfl (by kernel_rfl) (by kernel_rfl) (by kernel_rfl) (fun _ _ _ h => h) (Or.inl ⟨by kernel_rfl, by intro w; go_simp⟩) ?_
  simp only [Act.put, List.setIfInBounds_toArray, List.set_cons_zero, List.set_cons_succ]
  refine take_any (some 52) (i := 6) (v := .int .i64 (i : Int)) rfl rfl (by kernel_rfl) (by kernel_rfl) (by kernel_rfl) (fun _ _ _ h => h) (Or.inl ⟨by kernel_rfl, by intro w; go_simp⟩) ?_
  simp only [Act.put, List.setIfInBounds_toArray, List.set_cons_zero, List.set_cons_succ]
  refine take_any (some 53) (i := 7) (v := .slice (some ⟨g, i * 9, none⟩) (N - i) (cap - i)) rfl rfl (by kernel_rfl) (by kernel_rfl) (by kernel_rfl) (fun _ _ _ h => h) (Or.inl ⟨by kernel_rfl, by intro w; go_simp⟩) ?_
  simp only [Act.put, List.setIfInBounds_toArray, List.set_cons_zero, List.set_cons_succ]
  refine wpAny_ready (rs := [8]) (by kernel_rfl) (by simp) ?_
  refine AllReady.cons rfl (fun K hK => ?_) AllReady.nil
  refine step_copy_runI rfl (.tmp 50) (.tmp 53) 25 25 rfl _ _ rfl rfl (hcpB _ _ _) ?_
  refine hK _ _ ?_
  clear hK K
  simp only [Act.put, List.setIfInBounds_toArray, List.set_cons_zero, List.set_cons_succ]
  refine wpAny_done (by kernel_rfl) ?_ _
  go_wp2
  go_ret
  obtain ⟨f1, cs, f2, f3, f4, f5, f6⟩ := FIN.out
  exact ⟨G, cs, rfl, f1, f2, f3, f4, f5, f6⟩

/-- slices.Insert of one entry at its place. -/
theorem insertE_any (base : Nat) (v : Value) (xs : List Ent) (x : Ent) (i vb : Nat) (w : World) (h : OwnE w base v xs) (hi : i ≤ xs.length) (hl : xs.length ≤ 100000000000) (hbase : base ≤ w.heap.size)
    (hvb : w.heap[vb]? = some (.cells (EC x).toArray 58 (0, 0))) (hne : vb ∉ ob v) :
    Calls Tryd.prog 64 #[v, .int .i64 (i : Int), .slice (some ⟨vb, 0, none⟩) 1 1] w fun e w' => ∃ v', e = .returned v' ∧ OwnE w' base v' (xs.take i ++ x :: xs.drop i) ∧ Touch w w' (ob v) := by
  by_cases hin : i = xs.length
  · rw [hin]
    refine (insert_end base v xs x vb w h hl hbase hvb).mono ?_
    rintro e w' ⟨v', rfl, ho, hg⟩
    refine ⟨_, rfl, by simpa using ho, Touch.of_grown hg (fun k hk => mem_ob.2 hk)⟩
  · have e2 : (xs.take i ++ x :: xs.drop i).length = xs.length + 1 := by rw [List.length_append, List.length_take, List.length_cons, List.length_drop]; omega
    rcases h.parts with ⟨rfl, rfl⟩ | ⟨g, cap, cur, rfl, hb, hlt, hg, hnc, hcm, hcs, ht⟩
    · simp at hi; simp at hin; omega
    · by_cases hroom : xs.length + 1 ≤ cap
      · refine (insert_shift g cap xs.length i vb xs x cur w rfl (by omega) hl hg hroom hcm hcs ht hvb (fun e => hne (by simp [ob, Value.ownBlock, e]))).mono ?_
        rintro e w' ⟨rfl, rfl⟩
        refine ⟨_, rfl, ?_, touch_setCells _ _ (touch_setCells _ _ (Touch.drew (Touch.refl _ _)) (.inl (by simp [ob, Value.ownBlock]))) (.inl (by simp [ob, Value.ownBlock]))⟩
        have hdl : (Ecs (xs.drop i)).length = (xs.length - i) * 9 := by rw [Ecs_length, List.length_drop]
        have h1 := heap_setCells g 58 (Ecs (xs.drop i)) ((i + 1) * 9) w.drew cur hg (by rw [hdl]; omega)
        obtain ⟨L, hL⟩ : ∃ L : List Value, cur.toList.take ((i + 1) * 9) ++ Ecs (xs.drop i) ++ cur.toList.drop ((i + 1) * 9 + (Ecs (xs.drop i)).length) = L := ⟨_, rfl⟩
        rw [hL] at h1
        have hLs : L.length = cap * 9 := by
          rw [← hL]
          simp only [List.length_append, List.length_take, List.length_drop, Array.length_toList, hdl, hcs]
          omega
        have h2 := heap_setCells g 58 (EC x) (i * 9) _ L.toArray h1 (by simp only [List.size_toArray, hLs]; simp; omega)
        have hci : cur.toList.take (i * 9) = Ecs (xs.take i) := by rw [← Ecs_take, ← ht, List.take_take, Nat.min_eq_left (by omega)]
        have t1 : L.take (i * 9) = Ecs (xs.take i) := by
          rw [← hL, List.append_assoc, List.take_append_of_le_length (by rw [List.length_take, Array.length_toList, hcs]; omega), List.take_take, Nat.min_eq_left (by omega), hci]
        have t2 : L.drop (i * 9 + 9) = Ecs (xs.drop i) ++ cur.toList.drop ((i + 1) * 9 + (Ecs (xs.drop i)).length) := by
          have hl1 : (cur.toList.take ((i + 1) * 9)).length = i * 9 + 9 := by rw [List.length_take, Array.length_toList, hcs]; omega
          rw [← hL, List.append_assoc, List.drop_append_of_le_length (by rw [hl1]; exact Nat.le_refl _), List.drop_of_length_le (by rw [hl1]; exact Nat.le_refl _), List.nil_append]
        have := OwnE.mk (base := base) (xs := xs.take i ++ x :: xs.drop i) hb h2 (cap := cap) (by rw [e2]; exact hroom) hcm (by
          simp only [List.size_toArray, List.length_append, List.length_take, List.length_drop, hLs, List.length_cons, List.length_nil]
          omega) (by
          show List.take _ (L.take (i * 9) ++ EC x ++ L.drop (i * 9 + 9)) = _
          have el : (Ecs (xs.take i ++ x :: xs.drop i)).length = (xs.take i ++ x :: xs.drop i).length * 9 := Ecs_length _
          have e3 : Ecs (xs.take i) ++ EC x ++ (Ecs (xs.drop i) ++ cur.toList.drop ((i + 1) * 9 + (Ecs (xs.drop i)).length)) = Ecs (xs.take i ++ x :: xs.drop i) ++ cur.toList.drop ((i + 1) * 9 + (Ecs (xs.drop i)).length) := by
            rw [Ecs_app, Ecs_cons]; simp only [List.append_assoc]
          rw [t1, t2, e3, List.take_append_of_le_length (by rw [el]; exact Nat.le_refl _), List.take_of_length_le (by rw [el]; exact Nat.le_refl _)])
        rw [e2] at this
        exact this
      · refine (insert_grow g cap xs.length i vb xs x cur w rfl (by omega) hl hg hnc (by omega) hcm hcs ht hvb).mono ?_
        rintro e w' ⟨G, cs, rfl, hu, hc, h1, h2, h3, h4⟩
        refine ⟨_, rfl, ?_, Touch.of_up hu _⟩
        have := OwnE.mk (xs := xs.take i ++ x :: xs.drop i) hbase hc (by rw [e2]; exact h1) h2 h3 (by rw [e2]; exact h4)
        rw [e2] at this
        exact this
end Go.Proofs.YtdddfapelencoaaDoor
