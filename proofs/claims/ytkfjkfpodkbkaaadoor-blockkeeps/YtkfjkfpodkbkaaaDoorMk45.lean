/- Merged: SgPush2. -/
import Derived.Test.YtkfjkfpodkbkaaaDoorMk44
import Derived.Deep.DeepAppendWide
set_option linter.unusedVariables false
set_option linter.unusedSimpArgs false
namespace Go.Proofs.YtkfjkfpodkbkaaaDoor
open Go Go.RowKit

theorem append_none_any (w : World) (base : Nat) (ty : TypeId) (v : Value) (bs : List Value) (c : Nat) (how : OwnV w base v bs) : (Builtin.append_ #[23, 23] ty #[v, .slice none 0 c]).run Tryd.prog w = .ok v w := by
  obtain ⟨i0, hi, hz0, hz1, hz2⟩ := info_parts Tryd.infoSl
  rcases how.2 with ⟨rfl, h0⟩ | ⟨g, cap, cur, rfl, _, _, hnc, _⟩
  · simp [Builtin.append_, run_underlying Tryd.underlying23, sizeOf, typeInfo, hi, Builtin.lenOf, Builtin.firstCells, h0]
  · simp [Builtin.append_, run_underlying Tryd.underlying23, sizeOf, typeInfo, hi, Builtin.lenOf, Builtin.firstCells, hnc, storeCells]
/-- append(s, x...) where x is any slice of slices, also one without an element. -/
theorem wpList_appAny {ops : Array Oper} {rest : List Oper} {o : Oper} {a : Act} {Q : Exit → Act → World → Prop} (w : World) (hgd : o.guard = none) (s x : Operand)
    (ho : o.op = .call { callee := .builtin .append, args := #[s, x], argTypes := #[23, 23] }) (base : Nat) (v : Value) (bs us : List Value) (hs : a.eval s = v) (ao : Option Addr) (c : Nat)
    (hx : a.eval x = .slice ao us.length c) (how : OwnV w base v bs) (hnone : ao = none → us = []) (hnews : ∀ ad, ao = some ad → ∀ j u, us[j]? = some u → w.cell? (ad.add j) = some u) (h1c : ∀ u ∈ us, u.oneCell' = true) (hbase : base ≤ w.heap.size) (hl : bs.length + us.length ≤ 1000000000)
    (hK : ∀ v' w', OwnV w' base v' (bs ++ us) → w.grownBy w' v.ownBlock → (∀ k, v'.ownBlock = some k → v.ownBlock = some k ∨ w.heap.size ≤ k) → wpList Tryd.prog ops Q rest (a.put o.dst v') w') :
    wpList Tryd.prog ops Q (o :: rest) a w := by
  obtain ⟨i0, hi, hz0, hz1, hz2⟩ := info_parts Tryd.infoSl
  cases ao with
  | none =>
    obtain rfl := hnone rfl
    refine wpList_plain hgd fun K hKK => ?_
    have hrun := append_none_any w base o.type v bs c how
    unfold Oper.wp
    simp [execOp, ho, resolve, invoke, builtin, hs, hx, hrun, Result.andThen]
    exact hKK _ _ (hK v w (by rw [List.append_nil]; exact how) (World.grownBy.refl w _) (fun k hk => .inl hk))
  | some ad =>
    by_cases hne : us = []
    · subst hne
      rcases how.2 with ⟨rfl, h0⟩ | ⟨g, cap, cur, rfl, hbg, hg, hnc, hcm, hcs, htake⟩
      · obtain rfl : bs = [] := List.eq_nil_of_length_eq_zero h0
        refine wpList_append_own_wide _ hgd s x 23 ho base 27 i0 (.slice none 0 0) 1 24 Tryd.underlying23 hi hz0 hz1 hz2 rfl (by decide) (.slice none 0 0) 0 [] hs how ad 0 c [] hx (by simp) (fun j u h => by simp at h) (fun u h => by simp at h) (by unfold maxLen; omega) (by omega) hbase ?_
        intro v' w' h1 h2 h3
        obtain rfl := h3.2 ⟨rfl, rfl⟩
        exact hK _ w' (OwnV.nil _ _) h2 (fun k hk => by cases hk)
      · refine wpList_append_fits _ hgd s x 23 ho base 27 i0 1 Tryd.underlying23 hi hz1 g bs.length cap bs hs how ad 0 c [] hx (by simp) (fun j u h => by simp at h) (fun u h => by simp at h) (by simpa using hnc) ?_
        intro w' h1 h2
        exact hK _ w' (by simpa [OwnV] using h1) h2 (fun k hk => .inl hk)
    · exact wpList_appVW w hgd s x ho base v bs us hs ad c hx how (hnews ad rfl) h1c hbase hl hne hK
end Go.Proofs.YtkfjkfpodkbkaaaDoor
