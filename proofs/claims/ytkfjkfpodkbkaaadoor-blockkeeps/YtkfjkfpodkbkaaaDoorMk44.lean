/- Merged: SgPush. -/
import Derived.Test.YtkfjkfpodkbkaaaDoorMk33
import Derived.Laws.OwnMore
import Derived.Laws.MakeOwn
import Derived.OwnWalk
set_option linter.unusedVariables false
set_option linter.unusedSimpArgs false
namespace Go.Proofs.YtkfjkfpodkbkaaaDoor
open Go Go.RowKit

/-- append(s, x...) where s is an own row of slices: the row lies in its old block or in a new one; no other old block is turned. -/
theorem wpList_appVW {ops : Array Oper} {rest : List Oper} {o : Oper} {a : Act} {Q : Exit → Act → World → Prop} (w : World) (hgd : o.guard = none) (s x : Operand)
    (ho : o.op = .call { callee := .builtin .append, args := #[s, x], argTypes := #[23, 23] }) (base : Nat) (v : Value) (bs us : List Value) (hs : a.eval s = v) (ad : Addr) (c : Nat)
    (hx : a.eval x = .slice (some ad) us.length c) (how : OwnV w base v bs) (hnews : ∀ j u, us[j]? = some u → w.cell? (ad.add j) = some u) (h1c : ∀ u ∈ us, u.oneCell' = true) (hbase : base ≤ w.heap.size) (hl : bs.length + us.length ≤ 1000000000) (hne : us ≠ [])
    (hK : ∀ v' w', OwnV w' base v' (bs ++ us) → w.grownBy w' v.ownBlock → (∀ k, v'.ownBlock = some k → v.ownBlock = some k ∨ w.heap.size ≤ k) → wpList Tryd.prog ops Q rest (a.put o.dst v') w') :
    wpList Tryd.prog ops Q (o :: rest) a w := by
  obtain ⟨i0, hi, hz0, hz1, hz2⟩ := info_parts Tryd.infoSl
  by_cases hroom : ∃ g cap, v = .slice (some ⟨g, 0, none⟩) bs.length cap ∧ bs.length + us.length ≤ cap
  · obtain ⟨g, cap, rfl, hr⟩ := hroom
    refine wpList_append_fits _ hgd s x 23 ho base 27 i0 1 Tryd.underlying23 hi hz1 g bs.length cap bs hs how ad us.length c us hx (by simp) hnews h1c hr ?_
    intro w' h1 h2
    exact hK _ w' (by simpa [OwnV] using h1) h2 (fun k hk => .inl hk)
  · refine wpList_plain hgd fun K hKK => ?_
    have hzc : (Value.slice none 0 0).cells.size = 1 := rfl
    rcases how.2 with ⟨rfl, h0⟩ | ⟨g, cap, cur, rfl, hbg, hg, hnc, hcm, hcs, htake⟩
    · obtain rfl : bs = [] := List.eq_nil_of_length_eq_zero h0
      have hr := run_append_nil (P := Tryd.prog) w 23 o.type 27 i0 (.slice none 0 0) Tryd.underlying23 hi hz0 ad us.length c us (by rw [hz1]; simp) hnews
      have hu1 := List.length_pos_iff.2 hne
      have hl0 : us.length ≤ 1000000000 := by simpa using hl
      have hr := hr (by omega) (by omega) (by rw [hz2]; omega)
      have hge := grownCap_ge w us.length 0 27
      have hcm2 := grownCap_le_maxLen w us.length 0 27 (by unfold maxLen; omega)
      unfold Oper.wp execOp
      simp only [ho, resolve, invoke, builtin, Sem.run_bind, Sem.run_pure, Result.andThen_ok, List.map_toArray, List.map_cons, List.map_nil, hs, hx, hr]
      generalize grownCap w us.length 0 27 = gc at hge hcm2 ⊢
      have hown : ∀ b0, b0 ≤ w.heap.size → OwnV (w.drew.alloc (.cells (us.toArray ++ Builtin.zeroCells (Value.slice none 0 0).cells (gc - us.length)) 27)) b0 (.slice (some ⟨w.heap.size, 0, none⟩) us.length gc) ([] ++ us) := by
        intro b0 hb0
        refine ⟨by simp, .inr ⟨_, gc, _, rfl, hb0, heap_alloc_new _ _, by simpa using hge, hcm2, ?_, by simp⟩⟩
        simp only [Array.size_append, List.size_toArray, size_zeroCells, hzc]; omega
      refine hKK _ _ (hK _ _ (hown base hbase) ?_ (fun k hk => .inr (by cases hk; exact Nat.le_refl _)))
      exact (fun u => ⟨u.os, u.tape, u.output, u.size, fun k hk _ => u.block k hk⟩ : ∀ {w w' : World} {r : Option Nat}, Up w w' → w.grownBy w' r) ((Up.drew w).trans (Up.alloc _ _))
    · rw [Nat.mul_one] at hcs htake
      have hfull : cap < bs.length + us.length := by
        apply Classical.byContradiction
        intro h
        exact hroom ⟨g, cap, rfl, by omega⟩
      have holds : ∀ j u, bs[j]? = some u → w.cell? ((⟨g, 0, none⟩ : Addr).add j) = some u := how.cells (g := g) rfl
      have hr := run_append_grow (P := Tryd.prog) w 23 o.type 27 i0 (.slice none 0 0) Tryd.underlying23 hi hz0 ⟨g, 0, none⟩ bs.length cap bs (by rw [hz1]; simp) holds ad us.length c us (by rw [hz1]; simp) hnews (by omega) (by omega)
        (by rw [hz2]; exact growslice_fits (by omega) (by omega))
      have hge := grownCap_ge w (bs.length + us.length) cap 27
      have hcm2 := grownCap_le_maxLen w (bs.length + us.length) cap 27 (by unfold maxLen; omega)
      unfold Oper.wp execOp
      simp only [ho, resolve, invoke, builtin, Sem.run_bind, Sem.run_pure, Result.andThen_ok, List.map_toArray, List.map_cons, List.map_nil, hs, hx, hr]
      generalize grownCap w (bs.length + us.length) cap 27 = gc at hge hcm2 ⊢
      have hown : ∀ b0, b0 ≤ w.heap.size → OwnV (w.drew.alloc (.cells (bs.toArray ++ us.toArray ++ Builtin.zeroCells (Value.slice none 0 0).cells (gc - (bs.length + us.length))) 27)) b0 (.slice (some ⟨w.heap.size, 0, none⟩) (bs.length + us.length) gc) (bs ++ us) := by
        intro b0 hb0
        refine ⟨by simp, .inr ⟨_, gc, _, by simp, hb0, heap_alloc_new _ _, by simpa using hge, hcm2, ?_, ?_⟩⟩
        · simp only [Array.size_append, List.size_toArray, size_zeroCells, hzc, List.length_append]; omega
        · simp only [Array.toList_append, List.append_assoc]
          rw [← List.append_assoc, Nat.mul_one]
          exact List.take_left
      refine hKK _ _ (hK _ _ (hown base hbase) ?_ (fun k hk => .inr (by cases hk; exact Nat.le_refl _)))
      exact (fun u => ⟨u.os, u.tape, u.output, u.size, fun k hk _ => u.block k hk⟩ : ∀ {w w' : World} {r : Option Nat}, Up w w' → w.grownBy w' r) ((Up.drew w).trans (Up.alloc _ _))
end Go.Proofs.YtkfjkfpodkbkaaaDoor
