/- crc: a slice of bytes cut; a row of slices that grows by one. -/
import Derived.Test.YtikdmnfmnkmffaaDoorCopyC
set_option linter.unusedVariables false
namespace Go.Proofs.YtikdmnfmnkmffaaDoor
open Go Go.RowKit

theorem elem_bytes : Tryd.prog.elem 26 = 5 := by kernel_rfl
theorem size_u8 (u : World) : (sizeOf 5).run Tryd.prog u = .ok 1 u := by
  obtain ⟨i0, hi, hz0, hz1, hz2⟩ := info_parts Tryd.infoU8
  simp [sizeOf, typeInfo, hi, hz1]

theorem sl_cut {base : Nat} {w : World} {v : Value} {bs : List UInt8} (hs : Sl base w v bs) (l h : Nat) (hl : l ≤ h) (hh : h ≤ bs.length) :
    ∃ v', Sl base w v' ((bs.drop l).take (h - l)) ∧
      (∀ u, (Instr.slice 26 v (some (.int .i64 (l : Int))) (some (.int .i64 (h : Int))) none).run Tryd.prog u = .ok v' u) ∧
      (l = 0 → ∀ u, (Instr.slice 26 v none (some (.int .i64 (h : Int))) none).run Tryd.prog u = .ok v' u) ∧
      (h = bs.length → ∀ u, (Instr.slice 26 v (some (.int .i64 (l : Int))) none none).run Tryd.prog u = .ok v' u) := by
  obtain ⟨ao, cap, rfl, hc, hn, hx⟩ := hs
  have hu : Tryd.prog.underlying 26 = some (.slice (Tryd.prog.elem 26)) := by rw [elem_bytes]; exact Tryd.underlying26
  refine ⟨sliced ao l h cap 1, ?_, fun u => ?_, ?_, ?_⟩
  · refine ⟨if cap = l then ao else ao.map (·.add (l * 1)), cap - l, ?_, ?_, ?_, ?_⟩
    · simp [sliced]; omega
    · simp; omega
    · intro e
      split at e
      · omega
      · simp at e; have := hn e; omega
    · intro hne
      have hb : bs ≠ [] := by rintro rfl; simp at hne
      obtain ⟨b, o, rfl, hbb, ha⟩ := hx hb
      have hlt : l < h := by
        rcases Nat.lt_or_ge l h with h1 | h1
        · exact h1
        · exact absurd (by rw [show h - l = 0 by omega]; simp) hne
      rw [if_neg (by omega)]
      refine ⟨b, o + l, by simp [Addr.add_lit], hbb, ?_⟩
      intro i hi
      have hi' : i < h - l ∧ l + i < bs.length := by simp at hi; omega
      rw [Nat.add_assoc, ha (l + i) hi'.2]
      simp
  · rw [run_slice_lh u 26 ao _ cap hu .i64 .i64 _ _ (by omega) (by omega) (by omega), elem_bytes, size_u8]
    simp [Result.andThen]
  · rintro rfl u
    rw [run_slice_h u 26 ao _ cap hu .i64 _ (by omega) (by omega), elem_bytes, size_u8]
    simp [Result.andThen]
  · rintro rfl u
    rw [run_slice_l u 26 ao _ cap hu .i64 _ (by omega) (by omega), elem_bytes, size_u8]
    simp [Result.andThen]

theorem Tryd.infoSl : (Tryd.prog.info? 26).map (fun i => (i.zero, i.size, i.bytes)) = some (some (.slice none 0 0), 1, 24) := by kernel_rfl

/-- An own row of slices. -/
def OwnV (w : World) (base : Nat) (v : Value) (vs : List Value) : Prop := w.ownsRow base 26 1 v vs.length vs

/-- append(s, u) where s is an own row of slices, and u the one slice of a new block. -/
theorem wpList_pushV {ops : Array Oper} {rest : List Oper} {o : Oper} {a : Act} {Q : Exit → Act → World → Prop} (w : World) (hgd : o.guard = none) (s x : Operand)
    (ho : o.op = .call { callee := .builtin .append, args := #[s, x], argTypes := #[28, 28] }) (base : Nat) (v : Value) (vs : List Value) (hs : a.eval s = v) (l : Value) (hl1 : l.oneCell' = true)
    (hx : a.eval x = .slice (some ⟨w.heap.size, 0, none⟩) 1 1) (how : OwnV w base v vs) (hbase : base ≤ w.heap.size) (hl : vs.length ≤ 2000000)
    (hK : ∀ v' w', OwnV w' base v' (vs ++ [l]) → Below base w w' → wpList Tryd.prog ops Q rest (a.put o.dst v') w') :
    wpList Tryd.prog ops Q (o :: rest) a (w.alloc (.cells #[l] 26)) := by
  obtain ⟨i0, hi, hz0, hz1, hz2⟩ := info_parts Tryd.infoSl
  refine wpList_append_own _ hgd s x 28 ho base 26 i0 (.slice none 0 0) 1 24 Tryd.underlying28 hi hz0 hz1 hz2 rfl (by decide) v vs.length vs hs (World.ownsRow.alloc how _) ⟨w.heap.size, 0, none⟩ 1 1 [l] hx rfl ?_ ?_ ?_ ?_ ?_ ?_
  · intro j u hj
    match j, hj with
    | 0, hj => simp at hj; subst hj; rw [Addr.add_lit, cell_of_row _ _ _ _ _ _ (heap_alloc_new _ _)]; rfl
  · intro u hu; simp at hu; subst hu; exact hl1
  · unfold maxLen; omega
  · omega
  · simp; omega
  · intro v' w' h1 h2 _
    have hblk : ∀ k, v.ownBlock = some k → base ≤ k ∧ k < w.heap.size := fun k hk => World.ownsRow.lt how k hk
    refine hK v' w' (by unfold OwnV; simpa using h1) (((Below.refl base w).alloc hbase _).grown h2 (by simp; omega) (fun k hk => (hblk k hk).1))

/-- An own row of slices, each of which reads as bytes in a world that is kept, reads as the rows. -/
theorem OwnV.rw {w w0 : World} {base : Nat} {v : Value} {vs : List Value} {L : List (List UInt8)} (h : OwnV w base v vs) (hl : vs.length = L.length) (hs : ∀ i (h1 : i < vs.length) (h2 : i < L.length), Sl 0 w0 vs[i] L[i]) (hu : Up w0 w) : Rw w v L := by
  obtain ⟨hn, ⟨rfl, h0⟩ | ⟨g, cap, cur, rfl, hb, hg, hnc, hcm, hcs, ht⟩⟩ := h
  · have : L = [] := List.eq_nil_of_length_eq_zero (by omega)
    subst this
    exact ⟨none, 0, rfl, Nat.zero_le _, fun h => absurd rfl h⟩
  · refine ⟨some ⟨g, 0, none⟩, cap, by rw [hl], by omega, fun _ => ⟨g, 0, rfl, fun i hi => ⟨vs[i], ?_, (hs i (by omega) hi).up hu⟩⟩⟩
    rw [cell_of_row w g _ cur _ (0, 0) hg]
    have hvi : vs[i]? = some vs[i] := List.getElem?_eq_getElem (by omega)
    generalize vs[i] = u at hvi
    rw [← ht, List.getElem?_take] at hvi
    split at hvi
    · simpa using hvi
    · cases hvi
theorem OwnV.len {w : World} {base : Nat} {v : Value} {vs : List Value} (h : OwnV w base v vs) : ∃ ao cap, v = .slice ao vs.length cap := by
  obtain ⟨hn, ⟨rfl, h0⟩ | ⟨g, cap, cur, rfl, _⟩⟩ := h
  · exact ⟨none, 0, by rw [h0]⟩
  · exact ⟨_, cap, rfl⟩
end Go.Proofs.YtikdmnfmnkmffaaDoor
