/- Merged: BkMk2. -/
import Derived.Test.YtkfjkfpodkbkaaaDoorMk20
set_option linter.unusedVariables false
set_option linter.unusedSimpArgs false
namespace Go.Proofs.YtkfjkfpodkbkaaaDoor
open Go Go.RowKit

theorem OwnM.shp {w : World} {base : Nat} {v : Value} {bs : List UInt8} (h : OwnM w base v bs) : (v = .slice none 0 0 ∧ bs = []) ∨ ∃ g cap, v = .slice (some ⟨g, 0, none⟩) bs.length cap ∧ base ≤ g := by
  rcases h with ⟨rfl, rfl⟩ | ⟨g, cap, cur, f, rfl, hb, _⟩
  · exact .inl ⟨rfl, rfl⟩
  · exact .inr ⟨g, cap, rfl, hb⟩
theorem OwnM.byt {w : World} {base n cap g : Nat} {bs : List UInt8} (h : OwnM w base (.slice (some ⟨g, 0, none⟩) n cap) bs) (t : Nat) (ht : t < bs.length) : w.cell? ⟨g, t, none⟩ = some (B (bs[t]'ht)) ∧ w.frozen? ⟨g, t, none⟩ = false := by
  have ha := h.at t ht
  rw [Nat.zero_add] at ha
  obtain ⟨_, cur, f, _, _, hc, _⟩ := h.parts
  exact ⟨ha, h.not_frozen t (by omega)⟩

theorem mark_any (v : Value) (bs : List UInt8) (C : Nat) (c : UInt8) (hc : c.toNat = C) (w : World) (B0 : Nat) (ho : OwnM w B0 v bs) (hl : bs.length ≤ 140737488355328) :
    Calls Tryd.prog 11 #[v, .int .u8 (C : Int)] w fun e w' => e = .returned (.tuple #[]) ∧ OwnM w' B0 v (List.replicate bs.length c) ∧ w.grownBy w' v.ownBlock := by
  obtain ⟨N, hN⟩ : ∃ N, bs.length = N := ⟨_, rfl⟩
  rcases ho.shp with ⟨rfl, rfl⟩ | ⟨g, cap, rfl, hb⟩
  · clear hl ho hN
    go_enter Tryd.func11, Tryd.ntmps11
    go_wp2
    go_loopg [4] 0 (fun q p wr => p = .int .i64 0 ∧ q = 0 ∧ w = wr)
    case atStart => exact ⟨rfl, rfl, rfl⟩
    case round =>
      obtain ⟨rfl, rfl, rfl⟩ := hrel
      go_wp2
      refine bodyPost_end (results_none rfl _ _ _) rfl ?_
      exact ⟨rfl, .inl ⟨rfl, rfl⟩, World.grownBy.refl _ _⟩
  · rw [hN] at ho hl ⊢
    have HO : Hid (OwnM w B0 (.slice (some ⟨g, 0, none⟩) N cap) bs ∧ bs.length = N ∧ c.toNat = C) := ⟨ho, hN, hc⟩
    have n1 : (N : Int) ≤ 140737488355328 := by omega
    clear ho hN hc hl hb
    go_enter Tryd.func11, Tryd.ntmps11
    go_wp2
    go_loopg [4] N (fun q p wr => ∃ t : Nat, q = N - t ∧ p = .int .i64 (t : Int) ∧ Hid (t ≤ N ∧ w.grownBy wr (some g) ∧ ∃ xs : List UInt8, xs.length = N ∧ OwnM wr B0 (.slice (some ⟨g, 0, none⟩) N cap) xs ∧ ∀ j x, xs[j]? = some x → j < t → x = c))
    case atStart => exact ⟨0, rfl, rfl, Nat.zero_le _, World.grownBy.refl _ _, bs, HO.out.2.1, HO.out.1, fun j x _ h => by omega⟩
    case round =>
      obtain ⟨t, rfl, rfl, HT⟩ := hrel
      have t0 : (0 : Int) ≤ (t : Int) := by omega
      by_cases ht : t < N
      · obtain ⟨xs, hxl, hom, hd⟩ := HT.out.2.2
        have t1 : (t : Int) < (N : Int) := by omega
        have htx : t < xs.length := by omega
        obtain ⟨kb, kf⟩ := hom.byt t htx
        generalize xs[t] = c0 at kb
        have HS : Hid (t < N ∧ w.grownBy (wr.setCell ⟨g, t, none⟩ (.int .u8 (C : Int))) (some g) ∧ ∃ xs : List UInt8, xs.length = N ∧ OwnM (wr.setCell ⟨g, t, none⟩ (.int .u8 (C : Int))) B0 (.slice (some ⟨g, 0, none⟩) N cap) xs ∧ ∀ j x, xs[j]? = some x → j < t + 1 → x = c) := by
          have h1 := hom.set t htx c
          have e : B c = .int .u8 (C : Int) := by show Value.int .u8 ((c.toNat : Nat) : Int) = _; rw [HO.out.2.2]
          rw [e] at h1
          refine ⟨ht, But.trans HT.out.2.1 (But.setCell wr g t _), _, by rw [List.length_set]; exact hxl, h1, fun j x hx hj => ?_⟩
          rw [List.getElem?_set] at hx
          by_cases e2 : t = j
          · subst e2
            rw [if_pos rfl, if_pos htx] at hx
            cases hx; rfl
          · rw [if_neg e2] at hx
            exact hd j x hx (by omega)
        clear hxl hom hd ht htx
        go_wp2
        go_roundg (N - (t + 1))
        case measure => have := HS.out.1; omega
        case rel => exact ⟨t + 1, rfl, by go_num, HS.out.1, HS.out.2⟩
      · have t1 : ¬ (t : Int) < (N : Int) := by omega
        have HE : Hid (OwnM wr B0 (.slice (some ⟨g, 0, none⟩) N cap) (List.replicate N c) ∧ w.grownBy wr (some g)) := by
          obtain ⟨xs, hxl, hom, hd⟩ := HT.out.2.2
          have e : xs = List.replicate N c := List.eq_replicate_iff.2 ⟨hxl, fun x hx => by
            obtain ⟨j, hj, rfl⟩ := List.getElem_of_mem hx
            exact hd j _ (List.getElem?_eq_getElem hj) (by have := HT.out.1; omega)⟩
          rw [← e]
          exact ⟨hom, HT.out.2.1⟩
        clear ht
        go_wp2
        refine bodyPost_end (results_none rfl _ _ _) rfl ?_
        exact ⟨rfl, HE.out.1, HE.out.2⟩

/-- append(s, x...) where s is such a row and x some bytes: told whole. -/
theorem wpList_bytesM2 {ops : Array Oper} {rest : List Oper} {o : Oper} {a : Act} {Q : Exit → Act → World → Prop} (w : World) (hgd : o.guard = none) (s x : Operand)
    (ho : o.op = .call { callee := .builtin .append, args := #[s, x], argTypes := #[27, 27] }) (base : Nat) (v : Value) (bs cs : List UInt8) (hs : a.eval s = v) (ad : Addr) (c : Nat)
    (hx : a.eval x = .slice (some ad) cs.length c) (how : OwnM w base v bs) (hnews : ∀ j u, (Bv cs)[j]? = some u → w.cell? (ad.add j) = some u) (hbase : base ≤ w.heap.size) (hl : bs.length + cs.length ≤ 100000000000000) (hne : cs ≠ [])
    (hK : ∀ v' w', OwnM w' base v' (bs ++ cs) → (Up w w' ∧ (∀ k, v'.ownBlock = some k → w.heap.size ≤ k) ∨ ∃ g, v.ownBlock = some g ∧ v'.ownBlock = some g ∧ w.grownBy w' (some g)) → wpList Tryd.prog ops Q rest (a.put o.dst v') w') :
    wpList Tryd.prog ops Q (o :: rest) a w := by
  obtain ⟨i0, hi, hz0, hz1, hz2⟩ := info_parts Tryd.infoU8
  have hzc : (Value.int .u8 0).cells.size = 1 := rfl
  have hcl : (Bv cs).length = cs.length := by simp
  have hpos := List.length_pos_iff.2 hne
  refine wpList_plain hgd fun K hKK => ?_
  rcases how with ⟨rfl, rfl⟩ | ⟨g, cap, cur, f, rfl, hb, hg, hnc, hcm, hcs, ht, hf⟩
  · have hr := run_append_nil (P := Tryd.prog) w 27 o.type 5 i0 (.int .u8 0) Tryd.underlying27 hi hz0 ad cs.length c (Bv cs) (by rw [hz1, hcl, Nat.mul_one]) hnews hpos (by simp at hl; omega) (by rw [hz2]; simp at hl; omega)
    have hge := grownCap_ge w cs.length 0 5
    have hcm2 := grownCap_le_maxLen w cs.length 0 5 (by simp at hl; unfold maxLen; omega)
    unfold Oper.wp execOp
    simp only [ho, resolve, invoke, builtin, Sem.run_bind, Sem.run_pure, Result.andThen_ok, List.map_toArray, List.map_cons, List.map_nil, hs, hx, hr]
    generalize grownCap w cs.length 0 5 = gc at hge hcm2 ⊢
    refine hKK _ _ (hK _ _ (.inr ⟨w.heap.size, gc, _, (0, 0), rfl, hbase, heap_alloc_new _ _, by simpa using hge, hcm2, ?_, ?_, .inl rfl⟩) (.inl ⟨?_, fun k hk => by cases hk; exact Nat.le_refl _⟩))
    · simp only [Array.size_append, List.size_toArray, size_zeroCells, hzc, hcl]; omega
    · simp only [Array.toList_append, List.nil_append]
      rw [← hcl]; exact List.take_left
    · exact (Up.drew w).trans (Up.alloc _ _)
  · by_cases hroom : bs.length + cs.length ≤ cap
    · have hff := run_firstCells_some (P := Tryd.prog) w 1 cs.length ad cs.length c (Bv cs) (by rw [hcl, Nat.mul_one]) hnews
      have hst := run_storeCells_cells (P := Tryd.prog) g bs.length (Bv cs) 0 w (fun j hj => by
        rw [cell_of_row w g _ cur _ f hg]
        rw [hcl] at hj
        simp
        omega) (fun j hj => OwnM.not_frozen (.inr ⟨g, cap, cur, f, rfl, hb, hg, hnc, hcm, hcs, ht, hf⟩ : OwnM w base (.slice (some ⟨g, 0, none⟩) bs.length cap) bs) _ (by rw [hcl] at hj; omega)) (Bv_one cs)
      rw [Nat.add_zero] at hst
      have hr : (Builtin.append_ #[27, 27] o.type #[.slice (some ⟨g, 0, none⟩) bs.length cap, .slice (some ad) cs.length c]).run Tryd.prog w = .ok (.slice (some ⟨g, 0, none⟩) (bs.length + cs.length) cap) (w.setCells g bs.length (Bv cs)) := by
        simp [Builtin.append_, run_underlying Tryd.underlying27, sizeOf, typeInfo, hi, hz1, Builtin.lenOf, hroom, hff, Addr.add_lit, hst]
      unfold Oper.wp execOp
      simp only [ho, resolve, invoke, builtin, Sem.run_bind, Sem.run_pure, Result.andThen_ok, List.map_toArray, List.map_cons, List.map_nil, hs, hx, hr]
      have hh := heap_setCellsF g 5 f (Bv cs) bs.length w cur hg (by rw [hcl]; omega)
      refine hKK _ _ (hK _ _ (.inr ⟨g, cap, _, f, by simp, hb, hh, by simpa using hroom, hcm, ?_, ?_, hf⟩) (.inr ⟨g, rfl, rfl, grown_setCells _ _ _⟩))
      · simp only [List.size_toArray, List.length_append, List.length_take, List.length_drop, Array.length_toList, hcl]; omega
      · rw [List.toList_toArray, ht]
        have e : (bs ++ cs).length = (Bv bs ++ Bv cs).length := by simp
        rw [e, List.take_left]
        simp [Bv]
    · have holds : ∀ j u, (Bv bs)[j]? = some u → w.cell? ((⟨g, 0, none⟩ : Addr).add j) = some u := fun j u hj => by
        have hj2 : j < bs.length := by
          have := (List.getElem?_eq_some_iff.1 hj).1
          simpa using this
        rw [Addr.add_lit, cell_of_row w g _ cur _ f hg, Nat.zero_add]
        have h2 : (cur.toList.take bs.length)[j]? = some u := by rw [ht]; exact hj
        rw [List.getElem?_take, if_pos hj2] at h2
        simpa using h2
      have hr := run_append_grow (P := Tryd.prog) w 27 o.type 5 i0 (.int .u8 0) Tryd.underlying27 hi hz0 ⟨g, 0, none⟩ bs.length cap (Bv bs) (by rw [hz1]; simp) holds ad cs.length c (Bv cs) (by rw [hz1, hcl, Nat.mul_one]) hnews (by omega) (by omega)
        (by rw [hz2]; exact growslice_fits_wide (by omega) (by omega))
      have hge := grownCap_ge w (bs.length + cs.length) cap 5
      have hcm2 := grownCap_le_maxLen w (bs.length + cs.length) cap 5 (by unfold maxLen; omega)
      unfold Oper.wp execOp
      simp only [ho, resolve, invoke, builtin, Sem.run_bind, Sem.run_pure, Result.andThen_ok, List.map_toArray, List.map_cons, List.map_nil, hs, hx, hr]
      generalize grownCap w (bs.length + cs.length) cap 5 = gc at hge hcm2 ⊢
      refine hKK _ _ (hK _ _ (.inr ⟨w.heap.size, gc, _, (0, 0), by simp, hbase, heap_alloc_new _ _, by simpa using hge, hcm2, ?_, ?_, .inl rfl⟩) (.inl ⟨?_, fun k hk => by cases hk; exact Nat.le_refl _⟩))
      · simp only [Array.size_append, List.size_toArray, size_zeroCells, hzc, List.length_append, hcl, Bv, List.length_map]; omega
      · simp only [Array.toList_append, List.append_assoc]
        have e : (bs ++ cs).length = (Bv bs ++ Bv cs).length := by simp
        rw [← List.append_assoc, e]
        rw [show (Bv bs).toArray.toList ++ (Bv cs).toArray.toList = Bv bs ++ Bv cs by simp, List.take_left]
        simp [Bv]
      · exact (Up.drew w).trans (Up.alloc _ _)
end Go.Proofs.YtkfjkfpodkbkaaaDoor
