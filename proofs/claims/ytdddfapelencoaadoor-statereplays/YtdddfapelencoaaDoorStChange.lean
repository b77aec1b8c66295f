/- state: what change does, in one sentence. Own work. -/
import Derived.Test.YtdddfapelencoaaDoorLkP
import Derived.Test.YtdddfapelencoaaDoorStChgC
import Derived.Test.YtdddfapelencoaaDoorStChgD
set_option linter.unusedVariables false
set_option linter.unusedSimpArgs false
namespace Go.Proofs.YtdddfapelencoaaDoor
open Go Go.RowKit

/-- A row of cells in which some were written. -/
theorem take_put {α : Type} (L vs : List α) (a b m : Nat) (hab : a + vs.length = b) (hbm : b ≤ m) (hm : m ≤ L.length) : (L.take a ++ vs ++ L.drop b).take m = (L.take m).take a ++ vs ++ (L.take m).drop b := by
  have h1 : (L.take a ++ vs).length = b := by rw [List.length_append, List.length_take, Nat.min_eq_left (by omega)]; exact hab
  rw [List.take_append, List.take_of_length_le (by rw [h1]; exact hbm), h1, List.take_take, Nat.min_eq_left (by omega)]
  congr 1
  rw [List.drop_take]
theorem Ecs_set_lev : ∀ (xs : List Ent) (i : Nat) (h : i < xs.length) (c : Lev), Ecs (xs.set i (xs[i].1, xs[i].2.1, c)) = (Ecs xs).take (i * 9 + 6) ++ [V c.t, V c.i, V c.c] ++ (Ecs xs).drop (i * 9 + 9)
  | x :: xs, 0, _, c => by
    simp only [List.set_cons_zero, Ecs_cons, List.getElem_cons_zero]
    rfl
  | x :: xs, i + 1, h, c => by
    have ih := Ecs_set_lev xs i (by simpa using h) c
    simp only [List.set_cons_succ, Ecs_cons, List.getElem_cons_succ]
    rw [ih, show (i + 1) * 9 + 6 = (EC x).length + (i * 9 + 6) by simp; omega, show (i + 1) * 9 + 9 = (EC x).length + (i * 9 + 9) by simp; omega, List.take_length_add_append, List.drop_length_add_append]
    simp only [List.append_assoc]

/-- What change leaves. -/
def ChgPost (sb base l f : Nat) (v : Value) (w : World) (o : Option (List Ent)) (e : Ending) (w' : World) : Prop :=
  match o with
  | none => e = .returned (.bool false) ∧ Up w w'
  | some ys => e = .returned (.bool true) ∧ ∃ v', Box w' sb #[V l, V f, v'] ∧ OwnE w' base v' ys ∧ Touch w w' (sb :: ob v)

theorem change_any (sb base l f : Nat) (v : Value) (xs : List Ent) (r : RecV) (w : World) (hb : Box w sb #[V l, V f, v]) (ho : OwnE w base v xs) (hs : Srt xs) (hl : xs.length ≤ 4096) (hr : validR r) (hsb : sb < base) (hbase : base ≤ w.heap.size) :
    Calls Tryd.prog 48 #[.pointer (some ⟨sb, 0, none⟩), RV r] w (ChgPost sb base l f v w (chg xs r)) := by
  have hp := pl_le (kb r) xs
  have hF : ∀ u, Up w u → Calls Tryd.prog 9 #[.agg #[V l, V f, v], .string (kb r)] u fun e w' => e = .returned (.tuple #[.int .i64 (pl (kb r) xs : Nat), .bool (getL (kb r) xs).isSome]) ∧ Up u w' := fun u uu =>
    (Find_any v xs l f (kb r) u (ho.sl.up uu) (by omega)).mono (by
      rintro e w' ⟨i, o, rfl, ⟨_, h2⟩, h3⟩
      obtain ⟨rfl, rfl⟩ := h2 hs
      exact ⟨rfl, h3⟩)
  obtain ⟨a0, cp, rfl⟩ := ho.shape
  unfold chg
  by_cases k1 : r.kind = 1
  · rw [if_pos k1]
    cases hg : (getL (kb r) xs).isSome with
    | true =>
      rw [if_pos (by simp)]
      rw [hg] at hF
      have := change_def_there sb l f xs.length cp (pl (kb r) xs) a0 r.floor (kb r) r.pk r.gap r.slack r.limit r.span r.tat r.idx r.cnt w hb hp hl hF
      rw [← k1] at this
      exact this
    | false =>
      rw [hg] at hF
      by_cases hf : 4096 ≤ xs.length
      · rw [if_pos (by simp [hf])]
        have := change_def_full sb l f xs.length cp (pl (kb r) xs) a0 r.floor (kb r) r.pk r.gap r.slack r.limit r.span r.tat r.idx r.cnt w hb hp hl hF hf
        rw [← k1] at this
        exact this
      · rw [if_neg (by simp [hf])]
        have hn : getL (kb r) xs = none := by cases h : getL (kb r) xs with | none => rfl | some x => rw [h] at hg; cases hg
        have := change_def sb l f xs.length cp (pl (kb r) xs) a0 r.floor (kb r) r.pk r.gap r.slack r.limit r.span r.tat r.idx r.cnt w hb hp hl hF base xs ho rfl (by omega) hr.2.1 hsb hbase
        rw [← k1] at this
        refine this.mono ?_
        rintro e w' ⟨rfl, v', h1, h2, h3⟩
        exact ⟨rfl, v', h1, by rw [put_none hs hn]; exact h2, h3⟩
  · rw [if_neg k1]
    by_cases k2 : r.kind = 2
    · rw [if_pos k2]
      cases hg : (getL (kb r) xs).isSome with
      | false =>
        rw [if_neg (by simp)]
        rw [hg] at hF
        have := change_del_none sb l f xs.length cp (pl (kb r) xs) a0 r.floor (kb r) r.pk r.gap r.slack r.limit r.span r.tat r.idx r.cnt w hb hp hl hF
        rw [← k2] at this
        exact this
      | true =>
        rw [if_pos rfl]
        rw [hg] at hF
        obtain ⟨u, hu⟩ := Option.isSome_iff_exists.1 hg
        have hlt : pl (kb r) xs < xs.length := by
          rcases Nat.lt_or_ge (pl (kb r) xs) xs.length with h | h
          · exact h
          · rw [none_pl hs (kb r) (by omega)] at hu; cases hu
        have := change_del sb l f xs.length cp (pl (kb r) xs) a0 r.floor (kb r) r.pk r.gap r.slack r.limit r.span r.tat r.idx r.cnt w hb hp hl hF base xs ho hlt rfl hsb
        rw [← k2] at this
        refine this.mono ?_
        rintro e w' ⟨rfl, v', h1, h2, h3⟩
        exact ⟨rfl, v', h1, by rw [del_some hs hu]; exact h2, h3⟩
    · rw [if_neg k2]
      have k3 : r.kind = 3 := by
        rcases hr.2.2 with h | h | h
        · exact absurd h.1 k1
        · exact absurd h.1 k2
        · exact h.1
      cases hg : getL (kb r) xs with
      | none =>
        rw [hg] at hF
        have := change_ceil_none sb l f xs.length cp (pl (kb r) xs) a0 r.floor (kb r) r.pk r.gap r.slack r.limit r.span r.tat r.idx r.cnt w hb hp hl hF
        rw [← k3] at this
        exact this
      | some u =>
        rw [hg] at hF
        have hlt : pl (kb r) xs < xs.length := by
          rcases Nat.lt_or_ge (pl (kb r) xs) xs.length with h | h
          · exact h
          · rw [none_pl hs (kb r) (by omega)] at hg; cases hg
        have hkey : xs[pl (kb r) xs].1 = kb r := by
          have h1 := (here_pl hs (kb r) hlt).1
          rw [hg] at h1
          exact of_decide_eq_true h1.symm
        have hu : xs[pl (kb r) xs].2 = u := by
          have h1 := (here_pl hs (kb r) hlt).2 hkey
          rw [hg] at h1
          exact (Option.some.inj h1).symm
        rcases ho.parts with ⟨e1, e2⟩ | ⟨g, cap, cur, e1, hbg, hgl, hgg, hnc, hcm, hcs, ht⟩
        · rw [e2] at hlt; simp at hlt
        simp only [Value.slice.injEq] at e1
        obtain ⟨rfl, _, rfl⟩ := e1
        have hat : EntAt w g (pl (kb r) xs * 9) xs[pl (kb r) xs] := by have := (row_ents hgg ht).at _ hlt; rwa [Nat.zero_add] at this
        have hx : xs[pl (kb r) xs] = (kb r, u) := Prod.ext hkey hu
        have hset := Ecs_set_lev xs (pl (kb r) xs) hlt (rLev r)
        rw [hx] at hat hset
        obtain ⟨⟨pk, pg, ps, pq, pp⟩, lt, li, lc⟩ := u
        have hRec : ∀ (o : Bool), o = (pFits ⟨pk, pg, ps, pq, pp⟩ (rLev r) && pCov ⟨pk, pg, ps, pq, pp⟩ (rLev r) ⟨lt, li, lc⟩) → o = false → ∀ u, Up w u → Calls Tryd.prog 66 #[.pointer (some ⟨g, pl (kb r) xs * 9, none⟩), Lv r.tat r.idx r.cnt] u fun e w' => e = .returned (.bool false) ∧ Up u w' := by
          rintro o ho1 rfl u uu
          have hfc := fun u => fits_call ⟨pk, pg, ps, pq, pp⟩ (rLev r) u
          have hvc := fun u => covers_call ⟨pk, pg, ps, pq, pp⟩ (rLev r) ⟨lt, li, lc⟩ u
          cases hfz : pFits ⟨pk, pg, ps, pq, pp⟩ (rLev r) with
          | false =>
            rw [hfz] at hfc
            exact raise_unfit g _ _ _ _ _ _ _ _ _ _ _ _ _ u (hat.up uu) hfc
          | true =>
            rw [hfz] at hfc ho1
            rw [← (show false = pCov ⟨pk, pg, ps, pq, pp⟩ (rLev r) ⟨lt, li, lc⟩ by simpa using ho1)] at hvc
            exact raise_below g _ _ _ _ _ _ _ _ _ _ _ _ _ u (hat.up uu) hfc hvc
        cases hz : (pFits ⟨pk, pg, ps, pq, pp⟩ (rLev r) && pCov ⟨pk, pg, ps, pq, pp⟩ (rLev r) ⟨lt, li, lc⟩) with
        | false =>
          simp only [hz]
          have := change_ceil_no sb l f xs.length cp (pl (kb r) xs) g r.floor (kb r) r.pk r.gap r.slack r.limit r.span r.tat r.idx r.cnt w hb hp hl hF hlt (hRec _ rfl hz)
          rw [← k3] at this
          exact this
        | true =>
          simp only [hz, if_true]
          simp only [Bool.and_eq_true] at hz
          have hfc := fun u => fits_call ⟨pk, pg, ps, pq, pp⟩ (rLev r) u
          have hvc := fun u => covers_call ⟨pk, pg, ps, pq, pp⟩ (rLev r) ⟨lt, li, lc⟩ u
          rw [hz.1] at hfc
          rw [hz.2] at hvc
          have hgs : g ≠ sb := by omega
          have := change_ceil sb l f xs.length cp (pl (kb r) xs) g r.floor (kb r) r.pk r.gap r.slack r.limit r.span r.tat r.idx r.cnt w hb hp hl hF hgs hgl hlt
            (fun u uu => raise_put g _ _ _ _ _ _ _ _ _ _ _ _ _ u (hat.up uu) hfc hvc cur ((uu.block g hgl).trans hgg))
          rw [← k3] at this
          refine this.mono ?_
          rintro e w' ⟨rfl, u', hu', rfl⟩
          have hgu := (hu'.block g hgl).trans hgg
          have hsc := heap_setCells g 58 [V r.tat, V r.idx, V r.cnt] (pl (kb r) xs * 9 + 6) u' cur hgu (by rw [hcs]; simp; omega)
          have tt := touch_setCells (g := g) (S := [g]) [V r.tat, V r.idx, V r.cnt] (pl (kb r) xs * 9 + 6) (Touch.of_up hu' [g]) (.inl (by simp))
          refine ⟨rfl, _, Touch.box hb tt (by simpa using fun e => hgs e.symm), ?_, tt.mono (fun k hk => .inl (by simp at hk; simp [ob, Value.ownBlock, hk]))⟩
          rw [put_some hs hg]
          have el : (xs.set (pl (kb r) xs) (kb r, ((⟨pk, pg, ps, pq, pp⟩, rLev r) : Pol × Lev))).length = xs.length := List.length_set
          have := OwnE.mk (base := base) (xs := xs.set (pl (kb r) xs) (kb r, (⟨pk, pg, ps, pq, pp⟩, rLev r))) hbg hsc (cap := cp) (by rw [el]; exact hnc) hcm (by
            simp only [List.size_toArray, List.length_append, List.length_take, List.length_drop, Array.length_toList, hcs, List.length_cons, List.length_nil]
            omega) (by
            rw [el]
            show List.take (xs.length * 9) (cur.toList.take (pl (kb r) xs * 9 + 6) ++ [V r.tat, V r.idx, V r.cnt] ++ cur.toList.drop (pl (kb r) xs * 9 + 6 + 3)) = _
            rw [take_put _ _ _ _ _ (by rfl) (by omega) (by have : cur.toList.length = cur.size := Array.length_toList; omega), ht, hset])
          rw [el] at this
          exact this
end Go.Proofs.YtdddfapelencoaaDoor
