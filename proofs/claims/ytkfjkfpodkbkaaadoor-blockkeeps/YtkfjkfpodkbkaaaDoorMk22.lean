/- Merged: BkHelp. -/
import Derived.Test.YtkfjkfpodkbkaaaDoorMk19
set_option linter.unusedVariables false
set_option linter.unusedSimpArgs false
namespace Go.Proofs.YtkfjkfpodkbkaaaDoor
open Go Go.RowKit

theorem ownblocks_iff (vs : List Value) : (vs.filterMap Value.ownBlock).Nodup ↔ ∀ i j (hi : i < vs.length) (hj : j < vs.length) g, i < j → vs[i].ownBlock = some g → vs[j].ownBlock ≠ some g := by
  rw [List.Nodup, List.pairwise_filterMap, List.pairwise_iff_getElem]
  constructor
  · intro h i j hi hj g hij e1 e2
    exact h i j hi hj hij g e1 g e2 rfl
  · intro h i j hi hj hij x e1 y e2 e
    subst e
    exact h i j hi hj x hij e1 e2

theorem OwnV.set {w : World} {base g n cap : Nat} {vs : List Value} (h : OwnV w base (.slice (some ⟨g, 0, none⟩) n cap) vs) (k : Nat) (hk : k < vs.length) (u : Value) :
    OwnV (w.setCell ⟨g, k, none⟩ u) base (.slice (some ⟨g, 0, none⟩) n cap) (vs.set k u) := by
  rcases h.parts with ⟨e, _⟩ | ⟨g', cap', cur, e, hb, hlt, hg, hnc, hcm, hcs, ht⟩
  · cases e
  · simp only [Value.slice.injEq, Option.some.injEq, Addr.mk.injEq] at e
    obtain ⟨⟨rfl, _⟩, rfl, rfl⟩ := e
    refine ⟨by simp, .inr ⟨g, cap, cur.setIfInBounds k u, by simp, hb, heap_setCell2 w g _ k cur _ hg, by simpa using hnc, hcm, by simpa using hcs, ?_⟩⟩
    rw [Array.toList_setIfInBounds, List.length_set, Nat.mul_one, List.take_set, ht]

/-- A row of own rows that no conversion marked. -/
structure RecsO (w : World) (base : Nat) (v : Value) (L : List (List UInt8)) (vs : List Value) : Prop where
  row : OwnV w base v vs
  len : vs.length = L.length
  each : ∀ i (h1 : i < vs.length) (h2 : i < L.length), Own w 5 base vs[i] L[i]
  nd : (vs.filterMap Value.ownBlock).Nodup
theorem RecsO.recs {w : World} {base : Nat} {v : Value} {L : List (List UInt8)} {vs : List Value} (h : RecsO w base v L vs) : Recs w base v L vs :=
  ⟨h.row, h.len, fun i h1 h2 => (h.each i h1 h2).m, h.nd⟩
theorem RecsO.up {w w' : World} {base : Nat} {v : Value} {L : List (List UInt8)} {vs : List Value} (h : RecsO w base v L vs) (u : Up w w') : RecsO w' base v L vs :=
  ⟨ownsRow_up h.row u, h.len, fun i h1 h2 => ownsRow_up (h.each i h1 h2) u, h.nd⟩
theorem RecsO.set {w : World} {base base' g n cap : Nat} {L : List (List UInt8)} {vs : List Value} {u : Value} {bs : List UInt8} (h : RecsO w base (.slice (some ⟨g, 0, none⟩) n cap) L vs) (i : Nat) (hi : i < vs.length) (ho : Own w 5 base' u bs) (hlow : base ≤ base')
    (hnd : ∀ x ∈ vs.filterMap Value.ownBlock, x < base') : RecsO (w.setCell ⟨g, i, none⟩ u) base (.slice (some ⟨g, 0, none⟩) n cap) (L.set i bs) (vs.set i u) := by
  have hb := But.setCell w g i u
  refine ⟨h.row.set i hi u, by simp [h.len], fun j h1 h2 => ?_, ?_⟩
  · by_cases hj : j = i
    · subst hj
      simp only [List.getElem_set_self]
      exact ownsRow_low (ownsRow_but ho hb (fun e => rows_apart h.row ho rfl e)) hlow
    · have h1' : j < vs.length := by simpa using h1
      have h2' : j < L.length := by simpa using h2
      rw [List.getElem_set_ne (Ne.symm hj), List.getElem_set_ne (Ne.symm hj)]
      exact ownsRow_but (h.each j h1' h2') hb (fun e => rows_apart h.row (h.each j h1' h2') rfl e)
  · rw [ownblocks_iff]
    intro a b ha hb g2 hab e1 e2
    have hold := (ownblocks_iff vs).1 h.nd
    have ha' : a < vs.length := by simpa using ha
    have hb' : b < vs.length := by simpa using hb
    have hlt : ∀ c (hc : c < vs.length), vs[c].ownBlock = some g2 → g2 < base' := fun c hc e => hnd g2 (List.mem_filterMap.2 ⟨_, List.getElem_mem hc, e⟩)
    by_cases hai : a = i
    · subst hai
      rw [List.getElem_set_self] at e1
      rw [List.getElem_set_ne (by omega)] at e2
      have := (World.ownsRow.lt ho g2 e1).1
      have := hlt b hb' e2
      omega
    · by_cases hbi : b = i
      · subst hbi
        rw [List.getElem_set_self] at e2
        rw [List.getElem_set_ne (by omega)] at e1
        have := (World.ownsRow.lt ho g2 e2).1
        have := hlt a ha' e1
        omega
      · rw [List.getElem_set_ne (by omega)] at e1 e2
        exact hold a b ha' hb' g2 hab e1 e2

theorem make_rows (n : Nat) (hn : n ≤ 5000000000000) (u : World) : (Instr.makeSlice 23 (.int .i64 (n : Int)) (.int .i64 (n : Int))).run Tryd.prog u =
    .ok (.slice (some ⟨u.heap.size, 0, none⟩) n n) (u.alloc (.cells (madeCells #[.slice none 0 0] n) 27)) := by
  obtain ⟨i0, hi, hz0, hz1, hz2⟩ := info_parts Tryd.infoSl
  have h := run_make (P := Tryd.prog) u 23 27 i0 (.slice none 0 0) Tryd.underlying23 hi hz0 .i64 .i64 (n : Int) (n : Int) (by omega) (by omega) (by rw [hz2]; omega) (by omega)
  simpa [hz1, Value.cells] using h
theorem recs_made (n : Nat) (hn : n ≤ 5000000000000) (w : World) : RecsO (w.alloc (.cells (madeCells #[.slice none 0 0] n) 27)) w.heap.size (.slice (some ⟨w.heap.size, 0, none⟩) n n) (List.replicate n []) (List.replicate n (.slice none 0 0)) := by
  refine ⟨⟨by simp, .inr ⟨w.heap.size, n, _, by simp, Nat.le_refl _, heap_alloc_new _ _, by simp, by unfold maxLen; omega, by simp [size_madeCells], ?_⟩⟩, by simp, fun i h1 h2 => ?_, ?_⟩
  · rw [toList_madeCells_one, List.take_replicate]
    simp
  · rw [List.getElem_replicate, List.getElem_replicate]
    exact Own.nil _ _ _
  · rw [List.filterMap_replicate_of_none (by rfl)]
    exact List.nodup_nil

/-- append(s, x...) where s is an own row of bytes, and x any slice of bytes. -/
theorem wpList_bytes_any {ops : Array Oper} {rest : List Oper} {o : Oper} {a : Act} {Q : Exit → Act → World → Prop} (w : World) (hgd : o.guard = none) (s x : Operand)
    (ho : o.op = .call { callee := .builtin .append, args := #[s, x], argTypes := #[27, 27] }) (base base' : Nat) (v xv : Value) (bs cs : List UInt8) (hs : a.eval s = v)
    (hx : a.eval x = xv) (how : Own w 5 base v bs) (hsx : Sl base' w xv cs) (hbase : base ≤ w.heap.size) (hl : bs.length + cs.length ≤ 200000000000000)
    (hK : ∀ v' w', Own w' 5 base v' (bs ++ cs) → w.grownBy w' v.ownBlock → wpList Tryd.prog ops Q rest (a.put o.dst v') w') :
    wpList Tryd.prog ops Q (o :: rest) a w := by
  obtain ⟨ao, cap, rfl, hc, hn, hxx⟩ := hsx
  cases ao with
  | none =>
    obtain rfl := hn rfl
    have h0 : cs = [] := List.eq_nil_of_length_eq_zero (by omega)
    subst h0
    obtain ⟨i0, hi, hz0, hz1, hz2⟩ := info_parts Tryd.infoU8
    refine wpList_append_own_none hgd s x 27 ho base 5 i0 1 Tryd.underlying27 hi v bs.length (Bv bs) hs how hx (hK v w (by rw [List.append_nil]; exact how) (World.grownBy.refl w _))
  | some ad => exact wpList_bytes w hgd s x ho base base' v bs cs hs ad cap hx how ⟨_, cap, rfl, hc, hn, hxx⟩ hbase hl hK
end Go.Proofs.YtkfjkfpodkbkaaaDoor
