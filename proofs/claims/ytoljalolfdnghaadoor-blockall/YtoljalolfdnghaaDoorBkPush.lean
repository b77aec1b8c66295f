/- block: append of one slice to an own row of slices, told whole. -/
import Derived.Test.YtoljalolfdnghaaDoorBkScan
import Derived.Laws.OwnMore
import Derived.Laws.MakeOwn
import Derived.OwnWalk
set_option linter.unusedVariables false
set_option linter.unusedSimpArgs false
namespace Go.Proofs.YtoljalolfdnghaaDoor
open Go Go.RowKit

/-- append(s, d) where s is an own row of slices and d the one slice of a new block, told whole: either the row moves to a new block and no old block is turned, or it stays where it is and no other block is turned. -/
theorem wpList_pushVW {ops : Array Oper} {rest : List Oper} {o : Oper} {a : Act} {Q : Exit → Act → World → Prop} (w : World) (hgd : o.guard = none) (s x : Operand)
    (ho : o.op = .call { callee := .builtin .append, args := #[s, x], argTypes := #[27, 27] }) (base : Nat) (v : Value) (bs : List Value) (hs : a.eval s = v)
    (hx : a.eval x = .slice (some ⟨w.heap.size, 0, none⟩) 1 1) (how : OwnV w base v bs) (hbase : base ≤ w.heap.size) (hl : bs.length ≤ 1000000000) (d : Value) (hd1 : d.oneCell' = true)
    (hK : ∀ v' w', OwnV w' base v' (bs ++ [d]) → ((OwnV w' w.heap.size v' (bs ++ [d]) ∧ Up w w') ∨ (∃ g cap, v = .slice (some ⟨g, 0, none⟩) bs.length cap ∧ v' = .slice (some ⟨g, 0, none⟩) (bs.length + 1) cap ∧ But g w w')) → wpList Tryd.prog ops Q rest (a.put o.dst v') w') :
    wpList Tryd.prog ops Q (o :: rest) a (w.alloc (.cells #[d] 28)) := by
  obtain ⟨i0, hi, hz0, hz1, hz2⟩ := info_parts Tryd.infoSl
  have hnews : ∀ j u, ([d] : List Value)[j]? = some u → (w.alloc (.cells #[d] 28)).cell? ((⟨w.heap.size, 0, none⟩ : Addr).add j) = some u := by
    intro j u hj
    match j, hj with
    | 0, hj => simp at hj; subst hj; rw [Addr.add_lit, cell_of_row _ _ _ _ _ _ (heap_alloc_new _ _)]; rfl
  have h1c : ∀ u ∈ ([d] : List Value), u.oneCell' = true := by intro u hu; simp at hu; subst hu; exact hd1
  have how' : OwnV (w.alloc (.cells #[d] 28)) base v bs := World.ownsRow.alloc how _
  by_cases hroom : ∃ g cap, v = .slice (some ⟨g, 0, none⟩) bs.length cap ∧ bs.length + 1 ≤ cap
  · obtain ⟨g, cap, rfl, hr⟩ := hroom
    have hgl := (World.ownsRow.lt how g rfl).2
    refine wpList_append_fits _ hgd s x 27 ho base 28 i0 1 Tryd.underlying27 hi hz1 g bs.length cap bs hs how' ⟨w.heap.size, 0, none⟩ 1 1 [d] hx rfl hnews h1c hr ?_
    intro w' h1 h2
    refine hK _ w' (by simpa [OwnV] using h1) (.inr ⟨g, cap, rfl, rfl, ?_⟩)
    exact (But.of_up g (Up.alloc w _)).trans h2
  · refine wpList_plain hgd fun K hKK => ?_
    have hal : Up w (w.alloc (.cells #[d] 28)) := Up.alloc w _
    have hzc : (Value.slice none 0 0).cells.size = 1 := rfl
    rcases how'.2 with ⟨rfl, h0⟩ | ⟨g, cap, cur, rfl, hbg, hg, hnc, hcm, hcs, htake⟩
    · obtain rfl : bs = [] := List.eq_nil_of_length_eq_zero h0
      have hr := run_append_nil (P := Tryd.prog) (w.alloc (.cells #[d] 28)) 27 o.type 28 i0 (.slice none 0 0) Tryd.underlying27 hi hz0 ⟨w.heap.size, 0, none⟩ 1 1 [d] (by rw [hz1]; rfl) hnews (by omega) (by omega) (by rw [hz2]; omega)
      have hge := grownCap_ge (w.alloc (.cells #[d] 28)) 1 0 28
      have hcm2 := grownCap_le_maxLen (w.alloc (.cells #[d] 28)) 1 0 28 (by unfold maxLen; omega)
      unfold Oper.wp execOp
      simp only [ho, resolve, invoke, builtin, Sem.run_bind, Sem.run_pure, Result.andThen_ok, List.map_toArray, List.map_cons, List.map_nil, hs, hx, hr]
      generalize grownCap (w.alloc (.cells #[d] 28)) 1 0 28 = gc at hge hcm2 ⊢
      have hown : ∀ b0, b0 ≤ w.heap.size → OwnV ((w.alloc (.cells #[d] 28)).drew.alloc (.cells ([d].toArray ++ Builtin.zeroCells (Value.slice none 0 0).cells (gc - 1)) 28)) b0 (.slice (some ⟨(w.alloc (.cells #[d] 28)).heap.size, 0, none⟩) 1 gc) ([] ++ [d]) := by
        intro b0 hb0
        refine ⟨by simp, .inr ⟨_, gc, _, rfl, ?_, heap_alloc_new _ _, by simpa using hge, hcm2, ?_, by simp⟩⟩
        · simp; omega
        · simp only [Array.size_append, List.size_toArray, size_zeroCells, hzc, List.length_cons, List.length_nil]; omega
      refine hKK _ _ (hK _ _ (hown base hbase) (.inl ⟨hown _ (Nat.le_refl _), ?_⟩))
      exact hal.trans ((Up.drew _).trans (Up.alloc _ _))
    · rw [Nat.mul_one] at hcs htake
      have hfull : cap < bs.length + 1 := by
        apply Classical.byContradiction
        intro h
        exact hroom ⟨g, cap, rfl, by omega⟩
      have holds : ∀ j u, bs[j]? = some u → (w.alloc (.cells #[d] 28)).cell? ((⟨g, 0, none⟩ : Addr).add j) = some u := how'.cells (g := g) rfl
      have hr := run_append_grow (P := Tryd.prog) (w.alloc (.cells #[d] 28)) 27 o.type 28 i0 (.slice none 0 0) Tryd.underlying27 hi hz0 ⟨g, 0, none⟩ bs.length cap bs (by rw [hz1]; simp) holds ⟨w.heap.size, 0, none⟩ 1 1 [d] (by rw [hz1]; rfl) hnews (by omega) (by omega)
        (by rw [hz2]; exact growslice_fits (by omega) (by omega))
      have hge := grownCap_ge (w.alloc (.cells #[d] 28)) (bs.length + 1) cap 28
      have hcm2 := grownCap_le_maxLen (w.alloc (.cells #[d] 28)) (bs.length + 1) cap 28 (by unfold maxLen; omega)
      unfold Oper.wp execOp
      simp only [ho, resolve, invoke, builtin, Sem.run_bind, Sem.run_pure, Result.andThen_ok, List.map_toArray, List.map_cons, List.map_nil, hs, hx, hr]
      generalize grownCap (w.alloc (.cells #[d] 28)) (bs.length + 1) cap 28 = gc at hge hcm2 ⊢
      have hown : ∀ b0, b0 ≤ w.heap.size → OwnV ((w.alloc (.cells #[d] 28)).drew.alloc (.cells (bs.toArray ++ [d].toArray ++ Builtin.zeroCells (Value.slice none 0 0).cells (gc - (bs.length + 1))) 28)) b0 (.slice (some ⟨(w.alloc (.cells #[d] 28)).heap.size, 0, none⟩) (bs.length + 1) gc) (bs ++ [d]) := by
        intro b0 hb0
        refine ⟨by simp, .inr ⟨_, gc, _, by simp, ?_, heap_alloc_new _ _, by simpa using hge, hcm2, ?_, ?_⟩⟩
        · simp; omega
        · simp only [Array.size_append, List.size_toArray, size_zeroCells, hzc, List.length_map, List.length_cons, List.length_nil]; omega
        · simp only [Array.toList_append, List.append_assoc]
          rw [← List.append_assoc, Nat.mul_one]
          have e : ((bs ++ [d])).length = (bs ++ [d]).length := by simp
          rw [← e]; exact List.take_left
      refine hKK _ _ (hK _ _ (hown base hbase) (.inl ⟨hown _ (Nat.le_refl _), ?_⟩))
      exact hal.trans ((Up.drew _).trans (Up.alloc _ _))
end Go.Proofs.YtoljalolfdnghaaDoor
