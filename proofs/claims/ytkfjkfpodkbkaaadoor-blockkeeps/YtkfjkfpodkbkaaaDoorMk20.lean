/- Merged: BkMk. -/
import Derived.Test.YtkfjkfpodkbkaaaDoorMk19
set_option linter.unusedVariables false
set_option linter.unusedSimpArgs false
namespace Go.Proofs.YtkfjkfpodkbkaaaDoor
open Go Go.RowKit

theorem heap_setCellF (w : World) (r t i : Nat) (f : Nat × Nat) (cs : Array Value) (u : Value) (h : w.heap[r]? = some (.cells cs t f)) :
    (w.setCell ⟨r, i, none⟩ u).heap[r]? = some (.cells (cs.setIfInBounds i u) t f) := by
  rw [setCell_eq_setRow w r i cs t f u h]
  exact setRow_heap w r cs _ t _ h
theorem heap_setCellsF (g t : Nat) (f : Nat × Nat) : ∀ (vs : List Value) (o : Nat) (w : World) (cur : Array Value), w.heap[g]? = some (.cells cur t f) → o + vs.length ≤ cur.size →
    (w.setCells g o vs).heap[g]? = some (.cells (cur.toList.take o ++ vs ++ cur.toList.drop (o + vs.length)).toArray t f)
  | [], o, w, cur, h, _ => by
    show w.heap[g]? = _
    rw [h]
    simp
  | v :: r, o, w, cur, h, hl => by
    simp only [List.length_cons] at hl
    have h1 := heap_setCellF w g t o f cur v h
    have h2 := heap_setCellsF g t f r (o + 1) (w.setCell ⟨g, o, none⟩ v) (cur.setIfInBounds o v) h1 (by simp; omega)
    show ((w.setCell ⟨g, o, none⟩ v).setCells g (o + 1) r).heap[g]? = _
    rw [h2]
    congr 3
    refine List.ext_getElem? fun j => ?_
    simp only [List.getElem?_append, List.length_append, List.length_take, List.getElem?_take, List.getElem?_drop, Array.getElem?_toList, Array.getElem?_setIfInBounds, Array.length_toList, Array.size_setIfInBounds, List.length_cons]
    have e1 : min (o + 1) cur.size = o + 1 := by omega
    have e2 : min o cur.size = o := by omega
    rw [e1, e2]
    by_cases c1 : j < o
    · rw [if_pos (by omega), if_pos (by omega), if_pos (by omega), if_neg (by omega), if_pos (by omega), if_pos c1, if_pos c1]
    · by_cases c2 : j = o
      · subst c2
        rw [if_pos (by omega), if_pos (by omega), if_pos (by omega), if_pos rfl, if_pos (by omega), if_pos (by omega), if_neg (by omega), Nat.sub_self]
        rfl
      · by_cases c3 : j < o + (r.length + 1)
        · rw [if_pos (by omega), if_neg (by omega), if_pos (by omega), if_neg (by omega), show j - o = (j - (o + 1)) + 1 by omega, List.getElem?_cons_succ]
        · rw [if_neg (by omega), if_neg (by omega), if_neg (by omega)]
          congr 1
          omega
theorem grown_setCells {g : Nat} : ∀ (vs : List Value) (o : Nat) (w : World), w.grownBy (w.setCells g o vs) (some g)
  | [], _, w => World.grownBy.refl w _
  | v :: r, o, w => (But.setCell w g o v).trans (grown_setCells r (o + 1) _)

theorem OwnM.parts {w : World} {base g n cap : Nat} {bs : List UInt8} (h : OwnM w base (.slice (some ⟨g, 0, none⟩) n cap) bs) : n = bs.length ∧ ∃ cur f, base ≤ g ∧ w.heap[g]? = some (.cells cur 5 f) ∧ bs.length ≤ cap ∧ cap ≤ maxLen ∧ cur.size = cap ∧ cur.toList.take bs.length = Bv bs ∧ (f = (0, 0) ∨ f = (cap, cap + 1)) := by
  rcases h with ⟨e, _⟩ | ⟨g', cap', cur, f, e, hb, hg, hnc, hcm, hcs, ht, hf⟩
  · cases e
  · simp only [Value.slice.injEq, Option.some.injEq, Addr.mk.injEq] at e
    obtain ⟨⟨rfl, _⟩, rfl, rfl⟩ := e
    exact ⟨rfl, cur, f, hb, hg, hnc, hcm, hcs, ht, hf⟩
theorem OwnM.not_frozen {w : World} {base g n cap : Nat} {bs : List UInt8} (h : OwnM w base (.slice (some ⟨g, 0, none⟩) n cap) bs) (k : Nat) (hk : k < cap) : w.frozen? ⟨g, k, none⟩ = false := by
  obtain ⟨_, cur, f, hb, hg, hnc, hcm, hcs, ht, hf⟩ := h.parts
  unfold World.frozen?
  rw [hg]
  rcases hf with rfl | rfl
  · simp
  · simp; omega
theorem OwnM.set {w : World} {base g n cap : Nat} {bs : List UInt8} (h : OwnM w base (.slice (some ⟨g, 0, none⟩) n cap) bs) (k : Nat) (hk : k < bs.length) (c : UInt8) :
    OwnM (w.setCell ⟨g, k, none⟩ (B c)) base (.slice (some ⟨g, 0, none⟩) n cap) (bs.set k c) := by
  obtain ⟨rfl, cur, f, hb, hg, hnc, hcm, hcs, ht, hf⟩ := h.parts
  refine .inr ⟨g, cap, cur.setIfInBounds k (B c), f, by simp, hb, heap_setCellF w g _ k f cur _ hg, by simpa using hnc, hcm, by simpa using hcs, ?_, hf⟩
  rw [Array.toList_setIfInBounds, List.length_set, List.take_set, ht]
  exact (List.map_set ..).symm

/-- append(s, x...) where s is such a row and x some bytes: it lies in its old block or in a new one; no other old block is turned. -/
theorem wpList_bytesM {ops : Array Oper} {rest : List Oper} {o : Oper} {a : Act} {Q : Exit → Act → World → Prop} (w : World) (hgd : o.guard = none) (s x : Operand)
    (ho : o.op = .call { callee := .builtin .append, args := #[s, x], argTypes := #[27, 27] }) (base : Nat) (v : Value) (bs cs : List UInt8) (hs : a.eval s = v) (ad : Addr) (c : Nat)
    (hx : a.eval x = .slice (some ad) cs.length c) (how : OwnM w base v bs) (hnews : ∀ j u, (Bv cs)[j]? = some u → w.cell? (ad.add j) = some u) (hbase : base ≤ w.heap.size) (hl : bs.length + cs.length ≤ 100000000000000) (hne : cs ≠ [])
    (hK : ∀ v' w', OwnM w' base v' (bs ++ cs) → w.grownBy w' v.ownBlock → (∀ k, v'.ownBlock = some k → v.ownBlock = some k ∨ w.heap.size ≤ k) → wpList Tryd.prog ops Q rest (a.put o.dst v') w') :
    wpList Tryd.prog ops Q (o :: rest) a w := by
  obtain ⟨i0, hi, hz0, hz1, hz2⟩ := info_parts Tryd.infoU8
  have hzc : (Value.int .u8 0).cells.size = 1 := rfl
  have hcl : (Bv cs).length = cs.length := by simp
  have hpos := List.length_pos_iff.2 hne
  refine wpList_plain hgd fun K hKK => ?_
  rcases how with ⟨rfl, rfl⟩ | ⟨g, cap, cur, f, rfl, hb, hg, hnc, hcm, hcs, ht, hf⟩
  · have hr := run_append_nil (P := Tryd.prog) w 27 o.type 5 i0 (.int .u8 0) Tryd.underlying27 hi hz0 ad cs.length c (Bv cs) (by rw [hz1, hcl, Nat.mul_one]) hnews hpos (by simp at hl; omega) (by rw [hz2]; simp at hl; omega)
    have hge := grownCap_ge w cs.length 0 5
    have hcm2 := grownCap_le_maxLen w cs.length 0 5 (by simp at hl; unfold maxLen; omega)
    unfold Oper.wp execOp
    simp only [ho, resolve, invoke, builtin, Sem.run_bind, Sem.run_pure, Result.andThen_ok, List.map_toArray, List.map_cons, List.map_nil, hs, hx, hr]
    generalize grownCap w cs.length 0 5 = gc at hge hcm2 ⊢
    refine hKK _ _ (hK _ _ (.inr ⟨w.heap.size, gc, _, (0, 0), rfl, hbase, heap_alloc_new _ _, by simpa using hge, hcm2, ?_, ?_, .inl rfl⟩) ?_ (fun k hk => .inr (by cases hk; exact Nat.le_refl _)))
    · simp only [Array.size_append, List.size_toArray, size_zeroCells, hzc, hcl]; omega
    · simp only [Array.toList_append, List.nil_append]
      rw [← hcl]; exact List.take_left
    · exact (fun u => ⟨u.os, u.tape, u.output, u.size, fun k hk _ => u.block k hk⟩ : ∀ {w w' : World} {r : Option Nat}, Up w w' → w.grownBy w' r) ((Up.drew w).trans (Up.alloc _ _))
  · by_cases hroom : bs.length + cs.length ≤ cap
    · have hff := run_firstCells_some (P := Tryd.prog) w 1 cs.length ad cs.length c (Bv cs) (by rw [hcl, Nat.mul_one]) hnews
      have hst := run_storeCells_cells (P := Tryd.prog) g bs.length (Bv cs) 0 w (fun j hj => by
        rw [cell_of_row w g _ cur _ f hg]
        rw [hcl] at hj
        simp
        omega) (fun j hj => OwnM.not_frozen (.inr ⟨g, cap, cur, f, rfl, hb, hg, hnc, hcm, hcs, ht, hf⟩ : OwnM w base (.slice (some ⟨g, 0, none⟩) bs.length cap) bs) _ (by rw [hcl] at hj; omega)) (Bv_one cs)
      rw [Nat.add_zero] at hst
      have hr : (Builtin.append_ #[27, 27] o.type #[.slice (some ⟨g, 0, none⟩) bs.length cap, .slice (some ad) cs.length c]).run Tryd.prog w = .ok (.slice (some ⟨g, 0, none⟩) (bs.length + cs.length) cap) (w.setCells g bs.length (Bv cs)) := by
        simp [Builtin.append_, run_underlying Tryd.underlying27, sizeOf, typeInfo, hi, hz1, Builtin.lenOf, hroom, hff, Addr.add_lit, hst]
      unfold Oper.wp execOp
      simp only [ho, resolve, invoke, builtin, Sem.run_bind, Sem.run_pure, Result.andThen_ok, List.map_toArray, List.map_cons, List.map_nil, hs, hx, hr]
      have hh := heap_setCellsF g 5 f (Bv cs) bs.length w cur hg (by rw [hcl]; omega)
      refine hKK _ _ (hK _ _ (.inr ⟨g, cap, _, f, by simp, hb, hh, by simpa using hroom, hcm, ?_, ?_, hf⟩) (grown_setCells _ _ _) (fun k hk => .inl hk))
      · simp only [List.size_toArray, List.length_append, List.length_take, List.length_drop, Array.length_toList, hcl]; omega
      · rw [List.toList_toArray, ht]
        have e : (bs ++ cs).length = (Bv bs ++ Bv cs).length := by simp
        rw [e, List.take_left]
        simp [Bv]
    · have holds : ∀ j u, (Bv bs)[j]? = some u → w.cell? ((⟨g, 0, none⟩ : Addr).add j) = some u := fun j u hj => by
        have hj2 : j < bs.length := by
          have := (List.getElem?_eq_some_iff.1 hj).1
          simpa using this
        rw [Addr.add_lit, cell_of_row w g _ cur _ f hg, Nat.zero_add]
        have h2 : (cur.toList.take bs.length)[j]? = some u := by rw [ht]; exact hj
        rw [List.getElem?_take, if_pos hj2] at h2
        simpa using h2
      have hr := run_append_grow (P := Tryd.prog) w 27 o.type 5 i0 (.int .u8 0) Tryd.underlying27 hi hz0 ⟨g, 0, none⟩ bs.length cap (Bv bs) (by rw [hz1]; simp) holds ad cs.length c (Bv cs) (by rw [hz1, hcl, Nat.mul_one]) hnews (by omega) (by omega)
        (by rw [hz2]; exact growslice_fits_wide (by omega) (by omega))
      have hge := grownCap_ge w (bs.length + cs.length) cap 5
      have hcm2 := grownCap_le_maxLen w (bs.length + cs.length) cap 5 (by unfold maxLen; omega)
      unfold Oper.wp execOp
      simp only [ho, resolve, invoke, builtin, Sem.run_bind, Sem.run_pure, Result.andThen_ok, List.map_toArray, List.map_cons, List.map_nil, hs, hx, hr]
      generalize grownCap w (bs.length + cs.length) cap 5 = gc at hge hcm2 ⊢
      refine hKK _ _ (hK _ _ (.inr ⟨w.heap.size, gc, _, (0, 0), by simp, hbase, heap_alloc_new _ _, by simpa using hge, hcm2, ?_, ?_, .inl rfl⟩) ?_ (fun k hk => .inr (by cases hk; exact Nat.le_refl _)))
      · simp only [Array.size_append, List.size_toArray, size_zeroCells, hzc, List.length_append, hcl, Bv, List.length_map]; omega
      · simp only [Array.toList_append, List.append_assoc]
        have e : (bs ++ cs).length = (Bv bs ++ Bv cs).length := by simp
        rw [← List.append_assoc, e]
        rw [show (Bv bs).toArray.toList ++ (Bv cs).toArray.toList = Bv bs ++ Bv cs by simp, List.take_left]
        simp [Bv]
      · exact (fun u => ⟨u.os, u.tape, u.output, u.size, fun k hk _ => u.block k hk⟩ : ∀ {w w' : World} {r : Option Nat}, Up w w' → w.grownBy w' r) ((Up.drew w).trans (Up.alloc _ _))
end Go.Proofs.YtkfjkfpodkbkaaaDoor
