/- state: the library's Delete over entries, one entry (laid by genDel.py). Own work. -/
import Derived.Test.YtdddfapelencoaaDoorStCopy
import Derived.Test.YtdddfapelencoaaDoorDkIns0
import Derived.Test.YtdddfapelencoaaDoorStStep
set_option linter.unusedVariables false
set_option linter.unusedSimpArgs false
namespace Go.Proofs.YtdddfapelencoaaDoor
open Go Go.RowKit

theorem zero_ent (u : World) : (zeroValue 58).run Tryd.prog u = .ok (.agg #[.string ⟨#[]⟩, .int .i64 0, Z, Z, Z, Z, Z, Z, Z]) u := by
  obtain ⟨i0, hi, hz0, hz1, hz2⟩ := info_parts Tryd.infoEnt
  simp [zeroValue, typeInfo, hi, hz0]

set_option maxRecDepth 20000 in
set_option maxHeartbeats 1600000 in
theorem delete_run (g cap M i : Nat) (cur : Array Value) (news : List Value) (w : World) (hi : i ≤ M) (hl : M ≤ 1000000000000) (hg : w.heap[g]? = some (.cells cur 58 (0, 0))) (hnc : M + 1 ≤ cap) (hcm : cap ≤ maxLen) (hcs : cur.size = cap * 9) (hc : ¬ cap = i + 1) (hnl0 : news.length = (M + 1 - (i + 1)) * 9) (hnews : ∀ j u, news[j]? = some u → w.drew.cell? ((⟨g, (i + 1) * 9, none⟩ : Addr).add j) = some u) (hone : ∀ u ∈ news, u.oneCell' = true) :
    Calls Tryd.prog 65 #[.slice (some ⟨g, 0, none⟩) (M + 1) cap, .int .i64 (i : Int), .int .i64 ((i : Int) + 1)] w fun e w' => e = .returned (.slice (some ⟨g, 0, none⟩) M cap) ∧
      w' = (w.drew.setRow g (cur.toList.take (i * 9) ++ news ++ cur.toList.drop (i * 9 + news.length)).toArray).setCells g (M * 9) [.string ⟨#[]⟩, .int .i64 0, Z, Z, Z, Z, Z, Z, Z] := by
  have h1 : (i : Int) ≤ (M : Int) := by omega
  have h2 : (M : Int) ≤ 1000000000000 := by omega
  have h3 : ((i : Int) == (i : Int) + 1) = false := by simp only [beq_eq_false_iff_ne]; omega
  have h4 : (M : Int) + 1 ≤ (cap : Int) := by omega
  have h5 : (cap : Int) ≤ 9223372036854775807 := by unfold maxLen at hcm; omega
  obtain ⟨i0, hi0, hz0, hz1, hz2⟩ := info_parts Tryd.infoEnt
  have hnl : news.length = (M - i) * 9 := by rw [hnl0, Nat.succ_sub_succ]
  have hrun : ∀ ty, (Builtin.append_ #[25, 25] ty #[.slice (some ⟨g, 0, none⟩) i cap, .slice (some ⟨g, (i + 1) * 9, none⟩) (M - i) (cap - (i + 1))]).run Tryd.prog w.drew = .ok (.slice (some ⟨g, 0, none⟩) M cap) (w.drew.setRow g (cur.toList.take (i * 9) ++ news ++ cur.toList.drop (i * 9 + news.length)).toArray) := fun ty => by
    have := run_append_room (P := Tryd.prog) w.drew 25 ty 58 i0 Tryd.underlying25 hi0 g i cap cur hg ⟨g, (i + 1) * 9, none⟩ (M - i) (cap - (i + 1)) news (by rw [hz1]; exact hnl) hnews hone (by omega) (by rw [hz1, hnl, hcs]; omega)
    rw [hz1, show i + (M - i) = M by omega] at this
    exact this
  obtain ⟨W, hW⟩ : ∃ W, w.drew.setRow g (cur.toList.take (i * 9) ++ news ++ cur.toList.drop (i * 9 + news.length)).toArray = W := ⟨_, rfl⟩
  have hWg : ∃ cs : Array Value, W.heap[g]? = some (.cells cs 58 (0, 0)) ∧ cs.size = cap * 9 := by
    rw [← hW]
    refine ⟨_, setRow_heap _ _ _ _ _ _ (show w.drew.heap[g]? = _ from hg), ?_⟩
    simp only [List.size_toArray, List.length_append, List.length_take, List.length_drop, Array.length_toList, hnl]
    omega
  obtain ⟨cs, hWc, hcz⟩ := hWg
  have hclr : ∀ ty c, (Builtin.clear_ #[25] ty #[.slice (some ⟨g, M * 9, none⟩) 1 c]).run Tryd.prog W = .ok (.tuple #[]) (W.setCells g (M * 9) [.string ⟨#[]⟩, .int .i64 0, Z, Z, Z, Z, Z, Z, Z]) := fun ty c =>
    run_clearK W 25 58 ty _ Tryd.underlying25 zero_ent _ 1 (by kernel_rfl) (by intro v hv; simp only [List.mem_cons, List.not_mem_nil, or_false] at hv; rcases hv with rfl | rfl | rfl | rfl | rfl | rfl | rfl | rfl | rfl <;> rfl) g (M * 9) c (by decide)
      (fun j hj => by rw [cell_of_row _ _ _ _ _ _ hWc, Array.getElem?_eq_getElem (by simp at hj; omega)]; rfl) (fun j hj => by simp [World.frozen?, hWc])
  rw [hW] at hrun ⊢
  have c1 : ¬ (cap = i) := by omega
  have c4 : ¬ cap < i := by omega
  have c5 : ¬ (i : Int) + 1 < 0 := by omega
  have c6 : ((i : Int) + 1).toNat = i + 1 := by omega
  have c7 : ¬ M + 1 < i + 1 := by omega
  have c8 : ¬ (M : Int) + 1 < (i : Int) + 1 := by omega
  have c2 : ¬ (cap = M) := by omega
  have c3 : ¬ (M + 1 = i) := by omega
  clear hnl hi0 hz0 hz1 hz2 hg hcs hWc hcz hW hcm
  go_enter Tryd.func65, Tryd.ntmps65
  go_upto_region 5 with fail
  refine wp_region_any (by kernel_rfl) ?_
  refine take_any (some 20) (i := 0) (v := .slice (some ⟨g, 0, none⟩) (M + 1) cap) rfl rfl (by kernel_rfl) (by kernel_rfl) (by kernel_rfl) (fun _ _ _ h => h) (Or.inl ⟨by kernel_rfl, by intro w; go_simp⟩) ?_
  simp only [Act.put, List.setIfInBounds_toArray, List.set_cons_zero, List.set_cons_succ]
  refine take_any (some 21) (i := 1) (v := .int .i64 (i : Int)) rfl rfl (by kernel_rfl) (by kernel_rfl) (by kernel_rfl) (fun _ _ _ h => h) (Or.inl ⟨by kernel_rfl, by intro w; go_simp⟩) ?_
  simp only [Act.put, List.setIfInBounds_toArray, List.set_cons_zero, List.set_cons_succ]
  refine take_any (some 22) (i := 2) (v := .slice (some ⟨g, 0, none⟩) i cap) rfl rfl (by kernel_rfl) (by kernel_rfl) (by kernel_rfl) (fun _ _ _ h => h) (Or.inl ⟨by kernel_rfl, by intro w; go_simp⟩) ?_
  simp only [Act.put, List.setIfInBounds_toArray, List.set_cons_zero, List.set_cons_succ]
  refine take_any (some 23) (i := 3) (v := .slice (some ⟨g, 0, none⟩) (M + 1) cap) rfl rfl (by kernel_rfl) (by kernel_rfl) (by kernel_rfl) (fun _ _ _ h => h) (Or.inl ⟨by kernel_rfl, by intro w; go_simp⟩) ?_
  simp only [Act.put, List.setIfInBounds_toArray, List.set_cons_zero, List.set_cons_succ]
  refine take_any (some 24) (i := 4) (v := .int .i64 ((i : Int) + 1)) rfl rfl (by kernel_rfl) (by kernel_rfl) (by kernel_rfl) (fun _ _ _ h => h) (Or.inl ⟨by kernel_rfl, by intro w; go_simp⟩) ?_
  simp only [Act.put, List.setIfInBounds_toArray, List.set_cons_zero, List.set_cons_succ]
  refine take_any (some 25) (i := 5) (v := .slice (some ⟨g, (i + 1) * 9, none⟩) (M - i) (cap - (i + 1))) rfl rfl (by kernel_rfl) (by kernel_rfl) (by kernel_rfl) (fun _ _ _ h => h) (Or.inl ⟨by kernel_rfl, by intro w; go_simp⟩) ?_
  simp only [Act.put, List.setIfInBounds_toArray, List.set_cons_zero, List.set_cons_succ]
  refine wpAny_ready (rs := [6]) (by kernel_rfl) (by simp) ?_
  refine AllReady.cons rfl (fun K hK => ?_) AllReady.nil
  refine step_app_run rfl (.tmp 22) (.tmp 25) 25 25 rfl _ _ rfl rfl (hrun _) ?_
  refine hK _ _ ?_
  clear hK K
  simp only [Act.put, List.setIfInBounds_toArray, List.set_cons_zero, List.set_cons_succ]
  refine wpAny_ready (rs := [7]) (by kernel_rfl) (by simp) ?_
  refine AllReady.cons rfl (fun K hK => ?_) AllReady.nil
  go_simp
  refine hK _ _ ?_
  clear hK K
  refine wpAny_done (by kernel_rfl) ?_ _
  go_wp2_with (simp only [hclr])
  go_ret
  exact ⟨rfl, rfl⟩

set_option maxRecDepth 20000 in
set_option maxHeartbeats 1600000 in
theorem delete_end (g cap M i : Nat) (cur : Array Value) (news : List Value) (w : World) (hi : i ≤ M) (hl : M ≤ 1000000000000) (hg : w.heap[g]? = some (.cells cur 58 (0, 0))) (hnc : M + 1 ≤ cap) (hcm : cap ≤ maxLen) (hcs : cur.size = cap * 9) (hc : M = i) (hcap : cap = M + 1) (hnl0 : news = []) :
    Calls Tryd.prog 65 #[.slice (some ⟨g, 0, none⟩) (M + 1) cap, .int .i64 (i : Int), .int .i64 ((i : Int) + 1)] w fun e w' => e = .returned (.slice (some ⟨g, 0, none⟩) M cap) ∧
      w' = (w.drew.setRow g (cur.toList.take (i * 9) ++ news ++ cur.toList.drop (i * 9 + news.length)).toArray).setCells g (M * 9) [.string ⟨#[]⟩, .int .i64 0, Z, Z, Z, Z, Z, Z, Z] := by
  have h1 : (i : Int) ≤ (M : Int) := by omega
  have h2 : (M : Int) ≤ 1000000000000 := by omega
  have h3 : ((i : Int) == (i : Int) + 1) = false := by simp only [beq_eq_false_iff_ne]; omega
  have h4 : (M : Int) + 1 ≤ (cap : Int) := by omega
  have h5 : (cap : Int) ≤ 9223372036854775807 := by unfold maxLen at hcm; omega
  obtain ⟨i0, hi0, hz0, hz1, hz2⟩ := info_parts Tryd.infoEnt
  have hnl : news.length = (M - i) * 9 := by rw [hnl0, hc]; simp
  have hrun : ∀ ty, (Builtin.append_ #[25, 25] ty #[.slice (some ⟨g, 0, none⟩) i cap, .slice (some ⟨g, 0, none⟩) 0 0]).run Tryd.prog w.drew = .ok (.slice (some ⟨g, 0, none⟩) M cap) (w.drew.setRow g (cur.toList.take (i * 9) ++ news ++ cur.toList.drop (i * 9 + news.length)).toArray) := fun ty => by
    subst hc hnl0
    have := run_append_room (P := Tryd.prog) w.drew 25 ty 58 i0 Tryd.underlying25 hi0 g M cap cur hg ⟨g, 0, none⟩ 0 0 [] (by simp) (by simp) (by simp) (by omega) (by rw [hz1, hcs]; simp; omega)
    rw [hz1, Nat.add_zero] at this
    exact this
  obtain ⟨W, hW⟩ : ∃ W, w.drew.setRow g (cur.toList.take (i * 9) ++ news ++ cur.toList.drop (i * 9 + news.length)).toArray = W := ⟨_, rfl⟩
  have hWg : ∃ cs : Array Value, W.heap[g]? = some (.cells cs 58 (0, 0)) ∧ cs.size = cap * 9 := by
    rw [← hW]
    refine ⟨_, setRow_heap _ _ _ _ _ _ (show w.drew.heap[g]? = _ from hg), ?_⟩
    simp only [List.size_toArray, List.length_append, List.length_take, List.length_drop, Array.length_toList, hnl]
    omega
  obtain ⟨cs, hWc, hcz⟩ := hWg
  have hclr : ∀ ty c, (Builtin.clear_ #[25] ty #[.slice (some ⟨g, M * 9, none⟩) 1 c]).run Tryd.prog W = .ok (.tuple #[]) (W.setCells g (M * 9) [.string ⟨#[]⟩, .int .i64 0, Z, Z, Z, Z, Z, Z, Z]) := fun ty c =>
    run_clearK W 25 58 ty _ Tryd.underlying25 zero_ent _ 1 (by kernel_rfl) (by intro v hv; simp only [List.mem_cons, List.not_mem_nil, or_false] at hv; rcases hv with rfl | rfl | rfl | rfl | rfl | rfl | rfl | rfl | rfl <;> rfl) g (M * 9) c (by decide)
      (fun j hj => by rw [cell_of_row _ _ _ _ _ _ hWc, Array.getElem?_eq_getElem (by simp at hj; omega)]; rfl) (fun j hj => by simp [World.frozen?, hWc])
  rw [hW] at hrun ⊢
  have c1 : ¬ (cap = i) := by omega
  have c4 : ¬ cap < i := by omega
  have c5 : ¬ (i : Int) + 1 < 0 := by omega
  have c6 : ((i : Int) + 1).toNat = i + 1 := by omega
  have c7 : ¬ M + 1 < i + 1 := by omega
  have c8 : ¬ (M : Int) + 1 < (i : Int) + 1 := by omega
  have c2 : ¬ (cap = M) := by omega
  have c3 : ¬ (M + 1 = i) := by omega
  clear hnl hi0 hz0 hz1 hz2 hg hcs hWc hcz hW hcm
  subst hc hcap
  have c9 : ¬ (M : Int) + 1 < (M : Int) := by omega
  have c10 : ¬ M + 1 < M := by omega
  go_enter Tryd.func65, Tryd.ntmps65
  go_upto_region 5 with fail
  refine wp_region_any (by kernel_rfl) ?_
  refine take_any (some 20) (i := 0) (v := .slice (some ⟨g, 0, none⟩) (M + 1) (M + 1)) rfl rfl (by kernel_rfl) (by kernel_rfl) (by kernel_rfl) (fun _ _ _ h => h) (Or.inl ⟨by kernel_rfl, by intro w; go_simp⟩) ?_
  simp only [Act.put, List.setIfInBounds_toArray, List.set_cons_zero, List.set_cons_succ]
  refine take_any (some 21) (i := 1) (v := .int .i64 (M : Int)) rfl rfl (by kernel_rfl) (by kernel_rfl) (by kernel_rfl) (fun _ _ _ h => h) (Or.inl ⟨by kernel_rfl, by intro w; go_simp⟩) ?_
  simp only [Act.put, List.setIfInBounds_toArray, List.set_cons_zero, List.set_cons_succ]
  refine take_any (some 22) (i := 2) (v := .slice (some ⟨g, 0, none⟩) M (M + 1)) rfl rfl (by kernel_rfl) (by kernel_rfl) (by kernel_rfl) (fun _ _ _ h => h) (Or.inl ⟨by kernel_rfl, by intro w; go_simp⟩) ?_
  simp only [Act.put, List.setIfInBounds_toArray, List.set_cons_zero, List.set_cons_succ]
  refine take_any (some 23) (i := 3) (v := .slice (some ⟨g, 0, none⟩) (M + 1) (M + 1)) rfl rfl (by kernel_rfl) (by kernel_rfl) (by kernel_rfl) (fun _ _ _ h => h) (Or.inl ⟨by kernel_rfl, by intro w; go_simp⟩) ?_
  simp only [Act.put, List.setIfInBounds_toArray, List.set_cons_zero, List.set_cons_succ]
  refine take_any (some 24) (i := 4) (v := .int .i64 ((M : Int) + 1)) rfl rfl (by kernel_rfl) (by kernel_rfl) (by kernel_rfl) (fun _ _ _ h => h) (Or.inl ⟨by kernel_rfl, by intro w; go_simp⟩) ?_
  simp only [Act.put, List.setIfInBounds_toArray, List.set_cons_zero, List.set_cons_succ]
  refine take_any (some 25) (i := 5) (v := .slice (some ⟨g, 0, none⟩) 0 0) rfl rfl (by kernel_rfl) (by kernel_rfl) (by kernel_rfl) (fun _ _ _ h => h) (Or.inl ⟨by kernel_rfl, by intro w; go_simp⟩) ?_
  simp only [Act.put, List.setIfInBounds_toArray, List.set_cons_zero, List.set_cons_succ]
  refine wpAny_ready (rs := [6]) (by kernel_rfl) (by simp) ?_
  refine AllReady.cons rfl (fun K hK => ?_) AllReady.nil
  refine step_app_run rfl (.tmp 22) (.tmp 25) 25 25 rfl _ _ rfl rfl (hrun _) ?_
  refine hK _ _ ?_
  clear hK K
  simp only [Act.put, List.setIfInBounds_toArray, List.set_cons_zero, List.set_cons_succ]
  refine wpAny_ready (rs := [7]) (by kernel_rfl) (by simp) ?_
  refine AllReady.cons rfl (fun K hK => ?_) AllReady.nil
  go_simp
  refine hK _ _ ?_
  clear hK K
  refine wpAny_done (by kernel_rfl) ?_ _
  go_wp2_with (simp only [hclr])
  go_ret
  exact ⟨rfl, rfl⟩

/-- slices.Delete of one entry. -/
theorem deleteE_any (base : Nat) (v : Value) (xs : List Ent) (i : Nat) (w : World) (h : OwnE w base v xs) (hi : i < xs.length) (hl : xs.length ≤ 1000000000000) :
    Calls Tryd.prog 65 #[v, .int .i64 (i : Int), .int .i64 ((i : Int) + 1)] w fun e w' => ∃ v', e = .returned v' ∧ OwnE w' base v' (xs.take i ++ xs.drop (i + 1)) ∧ ob v' = ob v ∧ Touch w w' (ob v) := by
  rcases h.parts with ⟨rfl, rfl⟩ | ⟨g, cap, cur, rfl, hb, hlt, hg, hnc, hcm, hcs, ht⟩
  · simp at hi
  obtain ⟨M, hM⟩ : ∃ M, xs.length = M + 1 := ⟨xs.length - 1, by omega⟩
  have hdl : (Ecs (xs.drop (i + 1))).length = (M + 1 - (i + 1)) * 9 := by rw [Ecs_length, List.length_drop, hM]
  have hci : cur.toList.take (i * 9) = Ecs (xs.take i) := by
    rw [← Ecs_take, ← ht, List.take_take, Nat.min_eq_left (by omega)]
  have fin : ∀ w' news, news = Ecs (xs.drop (i + 1)) → w' = (w.drew.setRow g (cur.toList.take (i * 9) ++ news ++ cur.toList.drop (i * 9 + news.length)).toArray).setCells g (M * 9) [.string ⟨#[]⟩, .int .i64 0, Z, Z, Z, Z, Z, Z, Z] →
      OwnE w' base (.slice (some ⟨g, 0, none⟩) M cap) (xs.take i ++ xs.drop (i + 1)) ∧ Touch w w' [g] := by
    rintro w' news rfl rfl
    have e2 : (xs.take i ++ xs.drop (i + 1)).length = M := by rw [List.length_append, List.length_take, List.length_drop]; omega
    obtain ⟨L, hL⟩ : ∃ L, cur.toList.take (i * 9) ++ Ecs (xs.drop (i + 1)) ++ cur.toList.drop (i * 9 + (Ecs (xs.drop (i + 1))).length) = L := ⟨_, rfl⟩
    have hz : L.length = cap * 9 := by
      rw [← hL]
      simp only [List.length_append, List.length_take, List.length_drop, Array.length_toList, hdl]
      omega
    have hT : L.take (M * 9) = Ecs (xs.take i ++ xs.drop (i + 1)) := by
      have hA : (Ecs (xs.take i ++ xs.drop (i + 1))).length = M * 9 := by rw [Ecs_length, e2]
      rw [← hL, hci, ← Ecs_app, List.take_append_of_le_length (by rw [hA]; exact Nat.le_refl _), List.take_of_length_le (by rw [hA]; exact Nat.le_refl _)]
    rw [hL]
    have hr : (w.drew.setRow g L.toArray).heap[g]? = some (.cells L.toArray 58 (0, 0)) := setRow_heap _ _ _ _ _ _ (show w.drew.heap[g]? = _ from hg)
    have hs := heap_setCells g 58 [.string ⟨#[]⟩, .int .i64 0, Z, Z, Z, Z, Z, Z, Z] (M * 9) _ _ hr (by simp only [List.size_toArray, hz]; simp; omega)
    refine ⟨?_, touch_setCells _ _ ((Touch.drew (Touch.refl _ _)).setRow (.inl (by simp)) _) (.inl (by simp))⟩
    have := OwnE.mk (base := base) (xs := xs.take i ++ xs.drop (i + 1)) hb hs (cap := cap) (by rw [e2]; omega) hcm (by
      simp only [List.size_toArray, List.length_append, List.length_take, List.length_drop, hz, List.length_cons, List.length_nil]
      omega) (by
      rw [e2]
      show List.take (M * 9) (L.take (M * 9) ++ _ ++ _) = _
      rw [List.append_assoc, List.take_append_of_le_length (by simp only [List.length_take, hz]; omega), List.take_take, Nat.min_self, hT])
    rw [e2] at this
    exact this
  rw [hM] at hnc ⊢
  by_cases hc : cap = i + 1
  · have hMi : M = i := by omega
    refine (delete_end g cap M i cur (Ecs (xs.drop (i + 1))) w (by omega) (by omega) hg hnc hcm hcs hMi (by omega) (List.eq_nil_of_length_eq_zero (by rw [hdl]; omega))).mono ?_
    rintro e w' ⟨rfl, hw⟩
    exact ⟨_, rfl, (fin _ _ rfl hw).1, rfl, (fin _ _ rfl hw).2⟩
  · refine (delete_run g cap M i cur (Ecs (xs.drop (i + 1))) w (by omega) (by omega) hg hnc hcm hcs hc hdl ?_ (Ecs_one _)).mono ?_
    · intro j u hu
      rw [Addr.add_lit]
      show w.cell? ⟨g, (i + 1) * 9 + j, none⟩ = _
      have := row_ents hg ht ((i + 1) * 9 + j) u (by rw [← hu, ← Ecs_drop, List.getElem?_drop])
      rwa [Nat.zero_add] at this
    · rintro e w' ⟨rfl, hw⟩
      exact ⟨_, rfl, (fin _ _ rfl hw).1, rfl, (fin _ _ rfl hw).2⟩
end Go.Proofs.YtdddfapelencoaaDoor
