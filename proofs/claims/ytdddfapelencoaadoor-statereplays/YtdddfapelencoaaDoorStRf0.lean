/- state: what the reference's step keeps (laid by genRf.py). Own work. -/
import Derived.Test.YtdddfapelencoaaDoorStChange
import Derived.Test.YtdddfapelencoaaDoorLkE
import Derived.Test.YtdddfapelencoaaDoorLrP
import Derived.BigQuiet
import Derived.Deep.QuietTactic
set_option linter.unusedVariables false
set_option linter.unusedSimpArgs false
namespace Go.Proofs.YtdddfapelencoaaDoor
open Go Go.RowKit

theorem Tryd.infoEntR : (Tryd.prog.info? 58).map (fun i => (i.zero, i.size, i.bytes)) = some (some (.agg #[.string ⟨#[]⟩, .int .i64 0, .int .u64 0, .int .u64 0, .int .u64 0, .int .u64 0, .int .u64 0, .int .u64 0, .int .u64 0]), 9, 80) := by kernel_rfl
theorem wpList_pushR {ops : Array Oper} {rest : List Oper} {o : Oper} {a : Act} {Q : Exit → Act → World → Prop} (w : World) (hgd : o.guard = none) (s x : Operand)
    (ho : o.op = .call { callee := .builtin .append, args := #[s, x], argTypes := #[25, 25] }) (base nb : Nat) (v : Value) (xs : List Ent) (y : Ent) (hs : a.eval s = v)
    (hx : a.eval x = .slice (some ⟨nb, 0, none⟩) 1 1) (how : OwnE w base v xs) (hb : Box w nb (EC y).toArray) (hbase : base ≤ w.heap.size) (hl : xs.length ≤ 1000000)
    (hK : ∀ v' w', OwnE w' base v' (xs ++ [y]) → w.grownBy w' v.ownBlock → wpList Tryd.prog ops Q rest (a.put o.dst v') w') : wpList Tryd.prog ops Q (o :: rest) a w := by
  refine wpList_plain hgd fun K h => ?_
  obtain ⟨i0, hi, hz0, hz1, hz2⟩ := info_parts Tryd.infoEntR
  refine wp_append_own_wide w s x 25 ho base 58 i0 _ 9 80 Tryd.underlying25 hi hz0 hz1 hz2 rfl (by decide) v xs.length (Ecs xs) hs how ⟨nb, 0, none⟩ 1 1 (EC y) hx rfl ?_ (fun u hu => Ecs_one [y] u (by rw [Ecs_cons, Ecs_nil, List.append_nil]; exact hu)) ?_ ?_ hbase ?_
  · intro j u hj
    rw [Addr.add_lit, Nat.zero_add, hb.cell j]
    simpa using hj
  · unfold maxLen; omega
  · omega
  · intro v' w' h1 h2 _
    exact h _ _ (hK v' w' (by unfold OwnE; rw [List.length_append, Ecs_app, Ecs_cons, Ecs_nil, List.append_nil]; exact h1) h2)
theorem Ecs_set : ∀ (xs : List Ent) (i : Nat) (h : i < xs.length) (y : Ent), Ecs (xs.set i y) = (Ecs xs).take (i * 9) ++ EC y ++ (Ecs xs).drop (i * 9 + 9)
  | x :: xs, 0, _, y => by
    simp only [List.set_cons_zero, Ecs_cons]
    rfl
  | x :: xs, i + 1, h, y => by
    have ih := Ecs_set xs i (by simpa using h) y
    simp only [List.set_cons_succ, Ecs_cons]
    rw [ih, show (i + 1) * 9 = (EC x).length + i * 9 by simp; omega, show (EC x).length + i * 9 + 9 = (EC x).length + (i * 9 + 9) by omega, List.take_length_add_append, List.drop_length_add_append]
    simp only [List.append_assoc]
/-- An entry written into an own row. -/
theorem OwnE.put {w : World} {base g n cap : Nat} {xs : List Ent} (h : OwnE w base (.slice (some ⟨g, 0, none⟩) n cap) xs) (i : Nat) (hi : i < xs.length) (y : Ent) :
    OwnE (w.setCells g (i * 9) (EC y)) base (.slice (some ⟨g, 0, none⟩) n cap) (xs.set i y) ∧ Touch w (w.setCells g (i * 9) (EC y)) [g] := by
  refine ⟨?_, touch_setCells _ _ (Touch.refl _ _) (.inl (by simp))⟩
  rcases h.parts with ⟨e, rfl⟩ | ⟨g', cap', cur, e, hb, hlt, hg, hnc, hcm, hcs, ht⟩
  · simp at hi
  · simp only [Value.slice.injEq, Option.some.injEq, Addr.mk.injEq] at e
    obtain ⟨⟨rfl, _⟩, rfl, rfl⟩ := e
    have hsc := heap_setCells g 58 (EC y) (i * 9) w cur hg (by simp; omega)
    have el : (xs.set i y).length = xs.length := List.length_set
    have := OwnE.mk (base := base) (xs := xs.set i y) hb hsc (cap := cap) (by rw [el]; exact hnc) hcm (by
      simp only [List.size_toArray, List.length_append, List.length_take, List.length_drop, Array.length_toList, hcs, List.length_cons, List.length_nil]
      omega) (by
      rw [el]
      show List.take (xs.length * 9) (cur.toList.take (i * 9) ++ EC y ++ cur.toList.drop (i * 9 + 9)) = _
      rw [take_put _ _ _ _ _ (by rfl) (by omega) (by have : cur.toList.length = cur.size := Array.length_toList; omega), ht, Ecs_set xs i hi y])
    rw [el] at this
    exact this
theorem OwnE.here {w : World} {base g n cap : Nat} {xs : List Ent} (h : OwnE w base (.slice (some ⟨g, 0, none⟩) n cap) xs) (i : Nat) (hi : i < xs.length) : EntAt w g (i * 9) xs[i] := by
  rcases h.parts with ⟨e, rfl⟩ | ⟨g', cap', cur, e, hb, hlt, hg, hnc, hcm, hcs, ht⟩
  · simp at hi
  · simp only [Value.slice.injEq, Option.some.injEq, Addr.mk.injEq] at e
    obtain ⟨⟨rfl, _⟩, rfl, rfl⟩ := e
    have := (row_ents hg ht).at i hi
    rwa [Nat.zero_add] at this
theorem ownE_some {w : World} {base : Nat} {v : Value} {xs : List Ent} (h : OwnE w base v xs) (hne : xs ≠ []) : ∃ g cap, v = .slice (some ⟨g, 0, none⟩) xs.length cap ∧ base ≤ g ∧ g < w.heap.size := by
  rcases h.parts with ⟨_, e⟩ | ⟨g, cap, cur, e, hb, hlt, _⟩
  · exact absurd e hne
  · exact ⟨g, cap, e, hb, hlt⟩
/-- A row that lost its last entry. -/
theorem OwnE.cutLast {w : World} {base g n cap : Nat} {xs : List Ent} {z : Ent} (h : OwnE w base (.slice (some ⟨g, 0, none⟩) n cap) (xs ++ [z])) : OwnE w base (.slice (some ⟨g, 0, none⟩) xs.length cap) xs := by
  rcases h.parts with ⟨e, e2⟩ | ⟨g', cap', cur, e, hb, hlt, hg, hnc, hcm, hcs, ht⟩
  · simp at e2
  · simp only [Value.slice.injEq, Option.some.injEq, Addr.mk.injEq] at e
    obtain ⟨⟨rfl, _⟩, rfl, rfl⟩ := e
    refine OwnE.mk hb hg (by simp at hnc; omega) hcm hcs ?_
    have h2 := congrArg (List.take (xs.length * 9)) ht
    rw [List.take_take, Nat.min_eq_left (by simp; omega), Ecs_app, List.take_append_of_le_length (by rw [Ecs_length]; exact Nat.le_refl _), List.take_of_length_le (l := Ecs xs) (by rw [Ecs_length]; exact Nat.le_refl _)] at h2
    exact h2

/-- The state's box, and every block from a base on. -/
def Rb (sb base n : Nat) : List Nat := sb :: List.range' base (n - base)
theorem mem_Rb {sb base n k : Nat} (h : k = sb ∨ base ≤ k) : k ∈ Rb sb base n ∨ n ≤ k := by
  rcases Nat.lt_or_ge k n with c | c
  · refine .inl ?_
    unfold Rb
    rcases h with h | h
    · exact h ▸ List.mem_cons_self
    · exact List.mem_cons_of_mem _ (List.mem_range'_1.2 ⟨h, by omega⟩)
  · exact .inr c
theorem Rb_mem {sb base n k : Nat} (h : k ∈ Rb sb base n) : k = sb ∨ (base ≤ k ∧ k < n) := by
  unfold Rb at h
  rcases List.mem_cons.1 h with h | h
  · exact .inl h
  · have := List.mem_range'_1.1 h
    exact .inr ⟨this.1, by omega⟩
theorem OwnE.frozen {w : World} {base g n cap t : Nat} {xs : List Ent} (h : OwnE w base (.slice (some ⟨g, 0, none⟩) n cap) xs) : w.frozen? ⟨g, t, none⟩ = false := by
  rcases h.parts with ⟨e, _⟩ | ⟨g', cap', cur, e, hb, hlt, hg, _⟩
  · cases e
  · cases e
    simp [World.frozen?, hg]
theorem sb_of {u : World} {base B : Nat} {v a b c : Value} {ys : List Ent} (o : OwnE u base v ys) (hb : Box u B #[a, b, c]) : B ∉ ob v := fun hm => by
  rcases o.parts with ⟨rfl, _⟩ | ⟨g, cap, cur, rfl, _, _, hg, _, _, hcs, _⟩
  · simp [ob, Value.ownBlock] at hm
  · have e : B = g := by simpa [ob, Value.ownBlock] using hm
    subst e
    obtain ⟨t, ht⟩ := hb
    rw [ht] at hg
    simp only [Option.some.injEq, Obj.cells.injEq] at hg
    obtain ⟨rfl, _⟩ := hg
    simp at hcs
    omega
theorem rb_of {u : World} {base B : Nat} {v : Value} {ys : List Ent} {rs : Array Value} (o : OwnE u base v ys) (hb : Box u B rs) (h11 : rs.size = 11) : B ∉ ob v := fun hm => by
  rcases o.parts with ⟨rfl, _⟩ | ⟨g, cap, cur, rfl, _, _, hg, _, _, hcs, _⟩
  · simp [ob, Value.ownBlock] at hm
  · have e : B = g := by simpa [ob, Value.ownBlock] using hm
    subst e
    obtain ⟨t, ht⟩ := hb
    rw [ht] at hg
    simp only [Option.some.injEq, Obj.cells.injEq] at hg
    obtain ⟨rfl, _⟩ := hg
    omega

/-- What the reference's step keeps from its switch on. -/
structure Fn (sb B base l f : Nat) (v' : Value) (rs : Array Value) (ys : List Ent) (w u : World) : Prop where
  st : Box u sb #[V l, V f, v']
  rc : Box u B rs
  own : OwnE u base v' ys
  tt : Touch w u (Rb sb base w.heap.size)
  hb : B ≠ sb
  sz : rs.size = 11
theorem Fn.up {sb B base l f : Nat} {v' : Value} {rs : Array Value} {ys : List Ent} {w u u' : World} (h : Fn sb B base l f v' rs ys w u) (k : Up u u') : Fn sb B base l f v' rs ys w u' :=
  ⟨h.st.up k, h.rc.up k, h.own.up k, h.tt.trans (Touch.of_up k []) (fun _ hk => by cases hk), h.hb, h.sz⟩
theorem Fn.cell {sb B base l f l' f' : Nat} {v' : Value} {rs : Array Value} {ys : List Ent} {w u : World} (h : Fn sb B base l f v' rs ys w u) (i : Nat) (x : Value) (e : (#[V l, V f, v'] : Array Value).setIfInBounds i x = #[V l', V f', v']) : Fn sb B base l' f' v' rs ys w (u.setCell ⟨sb, i, none⟩ x) :=
  ⟨by have := h.st.set i x; rwa [e] at this, h.rc.other h.hb i x, h.own.kept ((Touch.refl _ [sb]).setCell (.inl (by simp)) i x) (fun k hk => by simp only [List.mem_singleton]; rintro rfl; exact sb_of h.own h.st hk), h.tt.setCell (mem_Rb (.inl rfl)) i x, h.hb, h.sz⟩
/-- Another row. -/
theorem Fn.row {sb B base l f : Nat} {v' v'' : Value} {rs : Array Value} {ys zs : List Ent} {w u : World} (h : Fn sb B base l f v' rs ys w u) (o : OwnE u base v'' zs) : Fn sb B base l f v'' rs zs w (u.setCell ⟨sb, 2, none⟩ v'') :=
  ⟨h.st.set 2 v'', h.rc.other h.hb 2 v'', o.kept ((Touch.refl _ [sb]).setCell (.inl (by simp)) 2 v'') (fun k hk => by simp only [List.mem_singleton]; rintro rfl; exact sb_of o h.st hk), h.tt.setCell (mem_Rb (.inl rfl)) 2 v'', h.hb, h.sz⟩
/-- An entry put into the row. -/
theorem Fn.put {sb B base l f g n cap : Nat} {rs : Array Value} {ys : List Ent} {w u : World} (h : Fn sb B base l f (.slice (some ⟨g, 0, none⟩) n cap) rs ys w u) (i : Nat) (hi : i < ys.length) (y : Ent) :
    Fn sb B base l f (.slice (some ⟨g, 0, none⟩) n cap) rs (ys.set i y) w (u.setCells g (i * 9) (EC y)) := by
  obtain ⟨o, t⟩ := h.own.put i hi y
  have h1 := (h.own.ge g (by simp [ob, Value.ownBlock])).1
  have h2 := sb_of h.own h.st
  have h3 := rb_of h.own h.rc h.sz
  simp only [ob, Value.ownBlock, Option.toList_some, List.mem_singleton] at h2 h3
  exact ⟨Touch.box h.st t (by simp only [List.mem_singleton]; exact h2), Touch.box h.rc t (by simp only [List.mem_singleton]; exact h3), o, h.tt.trans t (fun k hk => by
    simp only [List.mem_singleton] at hk
    subst hk
    exact mem_Rb (.inr h1)), h.hb, h.sz⟩
/-- A level written into the row. -/
theorem Fn.lev {sb B base l f g n cap : Nat} {rs : Array Value} {ys : List Ent} {w u : World} (h : Fn sb B base l f (.slice (some ⟨g, 0, none⟩) n cap) rs ys w u) (i : Nat) (hi : i < ys.length) (c : Lev) :
    Fn sb B base l f (.slice (some ⟨g, 0, none⟩) n cap) rs (ys.set i (ys[i].1, ys[i].2.1, c)) w (u.setCells g (i * 9 + 6) [V c.t, V c.i, V c.c]) := by
  have t : Touch u (u.setCells g (i * 9 + 6) [V c.t, V c.i, V c.c]) [g] := touch_setCells _ _ (Touch.refl _ _) (.inl (by simp))
  have o : OwnE (u.setCells g (i * 9 + 6) [V c.t, V c.i, V c.c]) base (.slice (some ⟨g, 0, none⟩) n cap) (ys.set i (ys[i].1, ys[i].2.1, c)) := by
    rcases h.own.parts with ⟨e, rfl⟩ | ⟨g', cap', cur, e, hb, hlt, hg, hnc, hcm, hcs, ht⟩
    · simp at hi
    · simp only [Value.slice.injEq, Option.some.injEq, Addr.mk.injEq] at e
      obtain ⟨⟨rfl, _⟩, rfl, rfl⟩ := e
      have hsc := heap_setCells g 58 [V c.t, V c.i, V c.c] (i * 9 + 6) u cur hg (by simp; omega)
      have el : (ys.set i (ys[i].1, ys[i].2.1, c)).length = ys.length := List.length_set
      have := OwnE.mk (base := base) (xs := ys.set i (ys[i].1, ys[i].2.1, c)) hb hsc (cap := cap) (by rw [el]; exact hnc) hcm (by
        simp only [List.size_toArray, List.length_append, List.length_take, List.length_drop, Array.length_toList, hcs, List.length_cons, List.length_nil]
        omega) (by
        rw [el]
        show List.take (ys.length * 9) (cur.toList.take (i * 9 + 6) ++ [V c.t, V c.i, V c.c] ++ cur.toList.drop (i * 9 + 6 + 3)) = _
        rw [take_put _ _ _ _ _ (by rfl) (by omega) (by have : cur.toList.length = cur.size := Array.length_toList; omega), ht, Ecs_set_lev ys i hi c])
      rw [el] at this
      exact this
  have h1 := (h.own.ge g (by simp [ob, Value.ownBlock])).1
  have h2 := sb_of h.own h.st
  have h3 := rb_of h.own h.rc h.sz
  simp only [ob, Value.ownBlock, Option.toList_some, List.mem_singleton] at h2 h3
  exact ⟨Touch.box h.st t (by simp only [List.mem_singleton]; exact h2), Touch.box h.rc t (by simp only [List.mem_singleton]; exact h3), o, h.tt.trans t (fun k hk => by
    simp only [List.mem_singleton] at hk
    subst hk
    exact mem_Rb (.inr h1)), h.hb, h.sz⟩
/-- The row grown. -/
theorem Fn.grow {sb B base l f : Nat} {v' v'' : Value} {rs : Array Value} {ys zs : List Ent} {w u u' : World} (h : Fn sb B base l f v' rs ys w u) (g : u.grownBy u' v'.ownBlock) (o : OwnE u' base v'' zs) : Box u' sb #[V l, V f, v'] ∧ Fn sb B base l f v'' rs zs w (u'.setCell ⟨sb, 2, none⟩ v'') := by
  have t : Touch u u' (ob v') := Touch.of_grown g (fun j e => mem_ob.2 e)
  have h1 : sb ∉ ob v' := sb_of h.own h.st
  have h3 := rb_of h.own h.rc h.sz
  have b1 := Touch.box h.st t h1
  refine ⟨b1, b1.set 2 v'', (Touch.box h.rc t h3).other h.hb 2 v'', o.kept ((Touch.refl _ [sb]).setCell (.inl (by simp)) 2 v'') (fun k hk => by simp only [List.mem_singleton]; rintro rfl; exact sb_of o b1 hk), (h.tt.trans t (fun k hk => mem_Rb (.inr (h.own.ge k hk).1))).setCell (mem_Rb (.inl rfl)) 2 v'', h.hb, h.sz⟩
end Go.Proofs.YtdddfapelencoaaDoor
