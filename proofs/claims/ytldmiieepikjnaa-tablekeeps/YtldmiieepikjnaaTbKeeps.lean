/- table: TableKeeps: two rows of the law's own beside the table; they hold the same, in another order. Own work. -/
import Derived.Test.YtldmiieepikjnaaTbOrder
import Derived.Test.YtldmiieepikjnaaTbArg
import Derived.WalkSmall
import Derived.Laws.OwnMore
import Derived.Maps.AppendAt
import Derived.Deep.DeepCutAuto
set_option linter.unusedVariables false
set_option linter.unusedSimpArgs false
namespace Go.Proofs.Ytldmiieepikjnaa
open Go Go.RowKit
variable {α : Type}

/-! ### The rows -/
theorem get_mem {X : List (KV α)} (h : Srt X) {k : ByteArray} {v : α} : getL k X = some v ↔ (k, v) ∈ X := by
  constructor
  · intro hg
    obtain ⟨A, B, rfl⟩ := getL_some hg
    simp
  · intro hm
    obtain ⟨A, B, rfl⟩ := List.append_of_mem hm
    exact getL_split h
theorem perm_found {X : List (KV α)} (h : Srt X) {k : ByteArray} {u : α} (hg : getL k X = some u) : X.Perm ((k, u) :: delL k X) := by
  obtain ⟨A, B, rfl⟩ := getL_some hg
  rw [del_here h]
  exact List.perm_middle
theorem perm_put (X : List (KV α)) (k : ByteArray) (v : α) : (putL k v X).Perm ((k, v) :: delL k X) := List.perm_middle
theorem del_none {X : List (KV α)} (h : Srt X) {k : ByteArray} (hg : getL k X = none) : delL k X = X := by
  have := lo_from (k := k) h
  rw [from_none hg] at this
  exact this.symm

/-- The same pairs, in another order; never more than the limit. -/
def Rel (lim : Int) (X Z : List (KV Int)) : Prop := X.Perm Z ∧ Srt X ∧ (X.length = 0 ∨ (X.length : Int) ≤ lim)
theorem Rel.nil (lim : Int) : Rel lim [] [] := ⟨List.Perm.refl _, List.Pairwise.nil, .inl rfl⟩
theorem Rel.here {lim : Int} {X A B : List (KV Int)} {k : ByteArray} {u : Int} (h : Rel lim X (A ++ (k, u) :: B)) : getL k X = some u := (get_mem h.2.1).2 (h.1.mem_iff.2 (by simp))
theorem Rel.gone {lim : Int} {X Z : List (KV Int)} {k : ByteArray} (h : Rel lim X Z) (hk : ∀ x ∈ Z, x.1 ≠ k) : getL k X = none := by
  cases hg : getL k X with
  | none => rfl
  | some v => exact absurd rfl (hk _ (h.1.mem_iff.1 ((get_mem h.2.1).1 hg)))
theorem Rel.rest {lim : Int} {X A B : List (KV Int)} {k : ByteArray} {u : Int} (h : Rel lim X (A ++ (k, u) :: B)) : (delL k X).Perm (A ++ B) :=
  ((perm_found h.2.1 h.here).symm.trans (h.1.trans List.perm_middle)).cons_inv
theorem Rel.putHere {lim : Int} {X A B : List (KV Int)} {k : ByteArray} {u : Int} (h : Rel lim X (A ++ (k, u) :: B)) (v : Int) : took lim k X = true ∧ Rel lim (putT lim k v X) (A ++ (k, v) :: B) := by
  have ht : took lim k X = true := took_has (by rw [h.here]; rfl)
  have hl := len_put (v := v) h.2.1 ht
  rw [h.here] at hl
  refine ⟨ht, ?_, srt_putT h.2.1 _ _, ?_⟩
  · unfold putT; rw [if_pos ht]
    exact (perm_put X k v).trans ((h.rest.cons _).trans List.perm_middle.symm)
  · rw [hl]; exact h.2.2
theorem Rel.putNew {lim : Int} {X Z : List (KV Int)} {k : ByteArray} (h : Rel lim X Z) (hk : ∀ x ∈ Z, x.1 ≠ k) (v : Int) :
    took lim k X = decide ((Z.length : Int) < lim) ∧ ((Z.length : Int) < lim → Rel lim (putT lim k v X) (Z ++ [(k, v)])) ∧ (¬ (Z.length : Int) < lim → putT lim k v X = X) := by
  have hg := h.gone hk
  have hlen := h.1.length_eq
  have ht : took lim k X = decide ((Z.length : Int) < lim) := by unfold took; rw [hg, hlen]; rfl
  refine ⟨ht, fun hl => ?_, fun hl => ?_⟩
  · have ht' : took lim k X = true := by rw [ht]; exact decide_eq_true hl
    refine ⟨?_, srt_putT h.2.1 _ _, .inr ?_⟩
    · unfold putT; rw [if_pos ht']
      refine (perm_put X k v).trans ?_
      rw [del_none h.2.1 hg]
      exact ((h.1.cons _)).trans (List.perm_append_singleton _ _).symm
    · have := len_put (v := v) h.2.1 ht'
      rw [hg] at this
      simp at this
      omega
  · unfold putT; rw [if_neg (by rw [ht]; simpa using hl)]
theorem swap_perm (A B : List α) (z : α) : (((A ++ z :: B).set A.length ((A ++ z :: B)[A.length + B.length]'(by simp))).take (A.length + B.length)).Perm (A ++ B) := by
  rcases List.eq_nil_or_concat B with rfl | ⟨B', l, rfl⟩
  · have e : (A ++ [z]).set A.length ((A ++ [z])[A.length + ([] : List α).length]'(by simp)) = A ++ [z] := by simp
    rw [e]; simp
  · have e : (A ++ z :: B'.concat l)[A.length + (B'.concat l).length]'(by simp) = l := by
      simp [List.getElem_append, List.getElem_cons]
    rw [e]
    have e2 : (A ++ z :: B'.concat l).set A.length l = (A ++ l :: B') ++ [l] := by simp [List.set_append]
    rw [e2, List.take_append_of_le_length (by simp), List.take_of_length_le (by simp)]
    refine List.Perm.append_left A ?_
    rw [List.concat_eq_append]
    exact (List.perm_append_singleton l B').symm
theorem Rel.delHere {lim : Int} {X A B : List (KV Int)} {k : ByteArray} {u : Int} (h : Rel lim X (A ++ (k, u) :: B)) :
    Rel lim (delT k X) (((A ++ (k, u) :: B).set A.length ((A ++ (k, u) :: B)[A.length + B.length]'(by simp))).take (A.length + B.length)) := by
  have e : delT k X = delL k X := by unfold delT; rw [if_pos (by rw [h.here]; rfl)]
  have hl := h.1.length_eq
  have h2 := h.rest.length_eq
  simp at hl h2
  refine ⟨?_, srt_delT h.2.1 _, ?_⟩
  · rw [e]; exact h.rest.trans (swap_perm A B _).symm
  · rw [e, h2]
    rcases h.2.2 with h3 | h3
    · omega
    · right; rw [hl] at h3; omega
theorem Rel.delNone {lim : Int} {X Z : List (KV Int)} {k : ByteArray} (h : Rel lim X Z) (hk : ∀ x ∈ Z, x.1 ≠ k) : delT k X = X := by
  unfold delT; rw [if_neg (by rw [h.gone hk]; simp)]

/-! ### The memory -/
abbrev OwnS (w : World) (base : Nat) (v : Value) (ks : List ByteArray) : Prop := w.ownsRow base 9 1 v ks.length (ks.map Value.string)
abbrev OwnV (w : World) (base : Nat) (v : Value) (vs : List Int) : Prop := w.ownsRow base 3 1 v vs.length (vs.map (Value.int .i64))
theorem row_type {w : World} {base : Nat} {e : TypeId} {v : Value} {n : Nat} {xs : List Value} (h : w.ownsRow base e 1 v n xs) : ∀ k ∈ ob v, base ≤ k ∧ ∃ cs, w.heap[k]? = some (.cells cs e (0, 0)) := by
  intro k hk
  rcases h.2 with ⟨rfl, _⟩ | ⟨g, cap, cur, rfl, hb, hg, _⟩
  · simp [ob, Value.ownBlock] at hk
  · simp [ob, Value.ownBlock] at hk
    subst hk
    exact ⟨hb, cur, hg⟩
/-- The table and the law's two rows. -/
def KR (w : World) (t : Nat) (lim : Int) (X : List (KV Int)) (ks : List ByteArray) (vs : List Int) (kv vv : Value) (W : World) : Prop :=
  TabI W t lim X ∧ OwnS W w.heap.size kv ks ∧ OwnV W w.heap.size vv vs ∧ Up w W ∧ w.heap.size ≤ t
theorem KR.up {w W W' : World} {t : Nat} {lim : Int} {X : List (KV Int)} {ks : List ByteArray} {vs : List Int} {kv vv : Value} (h : KR w t lim X ks vs kv vv W) (u : Up W W') : KR w t lim X ks vs kv vv W' := by
  obtain ⟨h1, h2, h3, h4, h5⟩ := h
  exact ⟨h1.up u, Touch.row h2 (Touch.of_up u []) (by simp), Touch.row h3 (Touch.of_up u []) (by simp), h4.trans u, h5⟩
theorem KR.tab {w W W' : World} {t : Nat} {lim : Int} {X X' : List (KV Int)} {ks : List ByteArray} {vs : List Int} {kv vv : Value} (h : KR w t lim X ks vs kv vv W) (ht : TabI W' t lim X') (tt : Touch W W' [t]) : KR w t lim X' ks vs kv vv W' := by
  obtain ⟨h1, h2, h3, h4, h5⟩ := h
  obtain ⟨tr, hb, _⟩ := h1
  refine ⟨ht, Touch.row h2 tt (fun k hk e => ?_), Touch.row h3 tt (fun k hk e => ?_), up_touch h4 tt h5, h5⟩
  · obtain ⟨_, cs, hc⟩ := row_type h2 k (mem_ob.2 hk)
    simp at e; subst e; rw [hb] at hc; simp at hc
  · obtain ⟨_, cs, hc⟩ := row_type h3 k (mem_ob.2 hk)
    simp at e; subst e; rw [hb] at hc; simp at hc
/-- The keys' row is changed. -/
theorem KR.keys {w W W' : World} {t : Nat} {lim : Int} {X : List (KV Int)} {ks ks' : List ByteArray} {vs : List Int} {kv kv' vv : Value} (h : KR w t lim X ks vs kv vv W) (hk : OwnS W' w.heap.size kv' ks') (tt : Touch W W' (ob kv)) : KR w t lim X ks' vs kv' vv W' := by
  obtain ⟨h1, h2, h3, h4, h5⟩ := h
  have hb := h1
  obtain ⟨tr, hb, _⟩ := hb
  have st : StI W W' := ⟨fun n cs T hT hn => tt.block n (Array.getElem?_eq_some_iff.1 hn).1 (fun hm => by
    obtain ⟨_, cs', hc⟩ := row_type h2 n hm
    rw [hn] at hc
    simp only [Option.some.injEq, Obj.cells.injEq] at hc
    obtain ⟨_, rfl, _⟩ := hc
    rcases hT with e | e <;> simp at e)⟩
  refine ⟨h1.kept (tt.block t h1.lt (fun hm => ?_)) st, hk, Touch.row h3 tt (fun k hk e => ?_), ((Touch.of_up h4 []).trans tt (fun k hk => .inr (row_type h2 k hk).1)).up (by simp), h5⟩
  · obtain ⟨_, cs, hc⟩ := row_type h2 t hm
    rw [hb] at hc; simp at hc
  · obtain ⟨_, cs, hc⟩ := row_type h3 k (mem_ob.2 hk)
    obtain ⟨_, cs', hc'⟩ := row_type h2 k e
    rw [hc] at hc'; simp at hc'
theorem KR.vals {w W W' : World} {t : Nat} {lim : Int} {X : List (KV Int)} {ks : List ByteArray} {vs vs' : List Int} {kv vv vv' : Value} (h : KR w t lim X ks vs kv vv W) (hk : OwnV W' w.heap.size vv' vs') (tt : Touch W W' (ob vv)) : KR w t lim X ks vs' kv vv' W' := by
  obtain ⟨h1, h2, h3, h4, h5⟩ := h
  have hb := h1
  obtain ⟨tr, hb, _⟩ := hb
  have st : StI W W' := ⟨fun n cs T hT hn => tt.block n (Array.getElem?_eq_some_iff.1 hn).1 (fun hm => by
    obtain ⟨_, cs', hc⟩ := row_type h3 n hm
    rw [hn] at hc
    simp only [Option.some.injEq, Obj.cells.injEq] at hc
    obtain ⟨_, rfl, _⟩ := hc
    rcases hT with e | e <;> simp at e)⟩
  refine ⟨h1.kept (tt.block t h1.lt (fun hm => ?_)) st, Touch.row h2 tt (fun k hk e => ?_), hk, ((Touch.of_up h4 []).trans tt (fun k hk => .inr (row_type h3 k hk).1)).up (by simp), h5⟩
  · obtain ⟨_, cs, hc⟩ := row_type h3 t hm
    rw [hb] at hc; simp at hc
  · obtain ⟨_, cs, hc⟩ := row_type h2 k (mem_ob.2 hk)
    obtain ⟨_, cs', hc'⟩ := row_type h3 k e
    rw [hc] at hc'; simp at hc'
theorem own_form {w : World} {base : Nat} {e : TypeId} {v : Value} {n : Nat} {xs : List Value} (h : w.ownsRow base e 1 v n xs) : ∃ ao cap, v = .slice ao n cap := by
  rcases h.2 with ⟨rfl, rfl⟩ | ⟨g, cap, cur, rfl, _⟩
  · exact ⟨_, _, rfl⟩
  · exact ⟨_, _, rfl⟩
theorem own_at {w : World} {base : Nat} {e : TypeId} {v : Value} {n : Nat} {xs : List Value} (h : w.ownsRow base e 1 v n xs) (hn : 0 < n) : ∃ g cap, v = .slice (some ⟨g, 0, none⟩) n cap ∧ n ≤ cap ∧ base ≤ g ∧ g < w.heap.size ∧ ∀ j, j < n → w.cell? ⟨g, j, none⟩ = xs[j]? ∧ w.frozen? ⟨g, j, none⟩ = false := by
  have h' := h
  rcases h.2 with ⟨rfl, rfl⟩ | ⟨g, cap, cur, rfl, hb, hg, hnc, _⟩
  · omega
  · exact ⟨g, cap, rfl, hnc, hb, (Array.getElem?_eq_some_iff.1 hg).1, fun j hj => ⟨h'.cellAt j (by omega), h'.frozenAt j⟩⟩
theorem KR.setK {w W : World} {t : Nat} {lim : Int} {X : List (KV Int)} {ks : List ByteArray} {vs : List Int} {g n cap : Nat} {vv : Value} (h : KR w t lim X ks vs (.slice (some ⟨g, 0, none⟩) n cap) vv W) (j : Nat) (s : ByteArray) : KR w t lim X (ks.set j s) vs (.slice (some ⟨g, 0, none⟩) n cap) vv (W.setCell ⟨g, j, none⟩ (.string s)) := by
  have h2 := h.2.1
  have hn : n = ks.length := by obtain ⟨ao, c, he⟩ := own_form h2; simp only [Value.slice.injEq] at he; exact he.2.1
  subst hn
  have := h2.stored j (.string s)
  refine h.keys (by rw [OwnS, List.length_set, List.map_set]; exact this.1) (Touch.of_grown this.2 (fun k hk => by simp at hk; simp [ob, Value.ownBlock, hk]))
theorem KR.setV {w W : World} {t : Nat} {lim : Int} {X : List (KV Int)} {ks : List ByteArray} {vs : List Int} {g n cap : Nat} {kv : Value} (h : KR w t lim X ks vs kv (.slice (some ⟨g, 0, none⟩) n cap) W) (j : Nat) (s : Int) : KR w t lim X ks (vs.set j s) kv (.slice (some ⟨g, 0, none⟩) n cap) (W.setCell ⟨g, j, none⟩ (.int .i64 s)) := by
  have h2 := h.2.2.1
  have hn : n = vs.length := by obtain ⟨ao, c, he⟩ := own_form h2; simp only [Value.slice.injEq] at he; exact he.2.1
  subst hn
  have := h2.stored j (.int .i64 s)
  refine h.vals (by rw [OwnV, List.length_set, List.map_set]; exact this.1) (Touch.of_grown this.2 (fun k hk => by simp at hk; simp [ob, Value.ownBlock, hk]))
theorem own_take {w : World} {base : Nat} {e : TypeId} {g n cap : Nat} {xs : List Value} (h : w.ownsRow base e 1 (.slice (some ⟨g, 0, none⟩) (n + 1) cap) (n + 1) xs) : w.ownsRow base e 1 (.slice (some ⟨g, 0, none⟩) n cap) n (xs.take n) := by
  have hl : xs.length = n + 1 := by have := h.1; omega
  refine ownsRow_pop (last := xs.drop n) (by rw [List.length_take]; omega) ?_
  rw [List.take_append_drop]; exact h
theorem KR.pop {w W : World} {t : Nat} {lim : Int} {X : List (KV Int)} {ks : List ByteArray} {vs : List Int} {g m n cap g2 cap2 : Nat} (hmn : m = n + 1) (h : KR w t lim X ks vs (.slice (some ⟨g, 0, none⟩) m cap) (.slice (some ⟨g2, 0, none⟩) m cap2) W) : KR w t lim X (ks.take n) (vs.take n) (.slice (some ⟨g, 0, none⟩) n cap) (.slice (some ⟨g2, 0, none⟩) n cap2) W := by
  subst hmn
  have h2 := h.2.1
  have h3 := h.2.2.1
  have hn : n + 1 = ks.length := by obtain ⟨ao, c, he⟩ := own_form h2; simp only [Value.slice.injEq] at he; exact he.2.1
  have hn2 : n + 1 = vs.length := by obtain ⟨ao, c, he⟩ := own_form h3; simp only [Value.slice.injEq] at he; exact he.2.1
  refine ⟨h.1, ?_, ?_, h.2.2.2⟩
  · rw [OwnS, ← hn] at h2
    have := own_take h2
    have e : (ks.take n).length = n := by rw [List.length_take]; omega
    rw [OwnS, e, List.map_take]; exact this
  · rw [OwnV, ← hn2] at h3
    have := own_take h3
    have e : (vs.take n).length = n := by rw [List.length_take]; omega
    rw [OwnV, e, List.map_take]; exact this

theorem Try.infoStr1 : (Try.prog.info? 9).map (fun i => (i.zero, i.size, i.bytes)) = some (some (.string ⟨#[]⟩), 1, 16) := by kernel_rfl
theorem Try.infoInt1 : (Try.prog.info? 3).map (fun i => (i.zero, i.size, i.bytes)) = some (some (.int .i64 0), 1, 8) := by kernel_rfl
/-- append of one key. -/
theorem wpList_pushKey {ops : Array Oper} {rest : List Oper} {o : Oper} {a : Act} {Q : Exit → Act → World → Prop} (W : World) (hgd : o.guard = none) (s x : Operand)
    (ho : o.op = .call { callee := .builtin .append, args := #[s, x], argTypes := #[73, 73] }) {w : World} {t : Nat} {lim : Int} {X : List (KV Int)} {ks : List ByteArray} {vs : List Int} {kv vv : Value} (x0 : ByteArray) (g : Nat) (hs : a.eval s = kv) (hx : a.eval x = .slice (some ⟨g, 0, none⟩) 1 1)
    (how : KR w t lim X ks vs kv vv W) (hg0 : W.cell? ⟨g, 0, none⟩ = some (.string x0)) {n : Nat} (hn : ks.length = n) (hl : n ≤ 4000000000000)
    (hK : ∀ ao' c' W', KR w t lim X (ks ++ [x0]) vs (.slice ao' (n + 1) c') vv W' → Touch W W' (ob kv) → wpList Try.prog ops Q rest (a.put o.dst (.slice ao' (n + 1) c')) W') : wpList Try.prog ops Q (o :: rest) a W := by
  subst hn
  obtain ⟨i0, hi, hz0, hz1, hz2⟩ := info_parts Try.infoStr1
  have hnews : ∀ j u, ([Value.string x0])[j]? = some u → W.cell? ((⟨g, 0, none⟩ : Addr).add j) = some u := by
    intro j u hj
    rw [Addr.add_lit]
    match j, hj with
    | 0, hj => simp at hj; subst hj; exact hg0
    | j + 1, hj => simp at hj
  obtain ⟨v', w', hr, r1, r2, r3, r4⟩ := run_append_own_at (P := Try.prog) W w.heap.size 73 o.type 9 i0 (.string ⟨#[]⟩) 1 16 Try.underlying73 hi hz0 hz1 hz2 rfl (by decide) kv ks.length (ks.map Value.string) how.2.1 ⟨g, 0, none⟩ 1 1 [.string x0] rfl hnews (by intro u hu; simp at hu; subst hu; rfl) (by unfold maxLen; omega) (by omega) how.2.2.2.1.size
  have r1' : OwnS w' w.heap.size v' (ks ++ [x0]) := by rw [OwnS, List.length_append, List.map_append]; exact r1
  obtain ⟨ao', c', rfl⟩ := own_form r1
  refine wpList_plain hgd fun K hKK => ?_
  unfold Oper.wp execOp
  simp only [ho, resolve, invoke, builtin, Sem.run_bind, Sem.run_pure, Result.andThen_ok, List.map_toArray, List.map_cons, List.map_nil, hs, hx, hr]
  exact hKK _ _ (hK ao' c' w' (how.keys r1' (Touch.of_grown r2 (fun k hk => mem_ob.2 hk))) (Touch.of_grown r2 (fun k hk => mem_ob.2 hk)))
/-- append of one number. -/
theorem wpList_pushVal {ops : Array Oper} {rest : List Oper} {o : Oper} {a : Act} {Q : Exit → Act → World → Prop} (W : World) (hgd : o.guard = none) (s x : Operand)
    (ho : o.op = .call { callee := .builtin .append, args := #[s, x], argTypes := #[74, 74] }) {w : World} {t : Nat} {lim : Int} {X : List (KV Int)} {ks : List ByteArray} {vs : List Int} {kv vv : Value} (x0 : Int) (g : Nat) (hs : a.eval s = vv) (hx : a.eval x = .slice (some ⟨g, 0, none⟩) 1 1)
    (how : KR w t lim X ks vs kv vv W) (hg0 : W.cell? ⟨g, 0, none⟩ = some (.int .i64 x0)) {n : Nat} (hn : vs.length = n) (hl : n ≤ 4000000000000)
    (hK : ∀ ao' c' W', KR w t lim X ks (vs ++ [x0]) kv (.slice ao' (n + 1) c') W' → wpList Try.prog ops Q rest (a.put o.dst (.slice ao' (n + 1) c')) W') : wpList Try.prog ops Q (o :: rest) a W := by
  subst hn
  obtain ⟨i0, hi, hz0, hz1, hz2⟩ := info_parts Try.infoInt1
  have hnews : ∀ j u, ([Value.int .i64 x0])[j]? = some u → W.cell? ((⟨g, 0, none⟩ : Addr).add j) = some u := by
    intro j u hj
    rw [Addr.add_lit]
    match j, hj with
    | 0, hj => simp at hj; subst hj; exact hg0
    | j + 1, hj => simp at hj
  obtain ⟨v', w', hr, r1, r2, r3, r4⟩ := run_append_own_at (P := Try.prog) W w.heap.size 74 o.type 3 i0 (.int .i64 0) 1 8 Try.underlying74 hi hz0 hz1 hz2 rfl (by decide) vv vs.length (vs.map (Value.int .i64)) how.2.2.1 ⟨g, 0, none⟩ 1 1 [.int .i64 x0] rfl hnews (by intro u hu; simp at hu; subst hu; rfl) (by unfold maxLen; omega) (by omega) how.2.2.2.1.size
  have r1' : OwnV w' w.heap.size v' (vs ++ [x0]) := by rw [OwnV, List.length_append, List.map_append]; exact r1
  obtain ⟨ao', c', rfl⟩ := own_form r1
  refine wpList_plain hgd fun K hKK => ?_
  unfold Oper.wp execOp
  simp only [ho, resolve, invoke, builtin, Sem.run_bind, Sem.run_pure, Result.andThen_ok, List.map_toArray, List.map_cons, List.map_nil, hs, hx, hr]
  exact hKK _ _ (hK ao' c' w' (how.vals r1' (Touch.of_grown r2 (fun k hk => mem_ob.2 hk))))
theorem KR.cellsK {w W : World} {t : Nat} {lim : Int} {X Z : List (KV Int)} {vs : List Int} {ka : Option Addr} {m kc : Nat} {vv : Value} (h : KR w t lim X (Z.map (·.1)) vs (.slice ka m kc) vv W) (hm : Z.length = m) (h0 : 0 < m) :
    ∃ g, ka = some ⟨g, 0, none⟩ ∧ m ≤ kc ∧ g < W.heap.size ∧ ∀ j (h : j < Z.length), W.cell? ⟨g, j, none⟩ = some (.string Z[j].1) ∧ W.frozen? ⟨g, j, none⟩ = false := by
  have h2 := h.2.1
  rw [OwnS, List.length_map, hm] at h2
  obtain ⟨g, cap, he, hc, hb, hg, hcell⟩ := own_at h2 h0
  simp only [Value.slice.injEq, true_and] at he
  obtain ⟨rfl, rfl⟩ := he
  refine ⟨g, rfl, hc, hg, fun j hj => ?_⟩
  obtain ⟨h3, h4⟩ := hcell j (by omega)
  exact ⟨by rw [h3]; simp [hj], h4⟩
theorem KR.cellsV {w W : World} {t : Nat} {lim : Int} {X Z : List (KV Int)} {ks : List ByteArray} {va : Option Addr} {m vc : Nat} {kv : Value} (h : KR w t lim X ks (Z.map (·.2)) kv (.slice va m vc) W) (hm : Z.length = m) (h0 : 0 < m) :
    ∃ g, va = some ⟨g, 0, none⟩ ∧ m ≤ vc ∧ g < W.heap.size ∧ ∀ j (h : j < Z.length), W.cell? ⟨g, j, none⟩ = some (.int .i64 Z[j].2) ∧ W.frozen? ⟨g, j, none⟩ = false := by
  have h2 := h.2.2.1
  rw [OwnV, List.length_map, hm] at h2
  obtain ⟨g, cap, he, hc, hb, hg, hcell⟩ := own_at h2 h0
  simp only [Value.slice.injEq, true_and] at he
  obtain ⟨rfl, rfl⟩ := he
  refine ⟨g, rfl, hc, hg, fun j hj => ?_⟩
  obtain ⟨h3, h4⟩ := hcell j (by omega)
  exact ⟨by rw [h3]; simp [hj], h4⟩
theorem sl_popS {g p kc : Nat} (hc : p + 1 ≤ kc) : ∀ u : World, (Instr.slice 73 (.slice (some ⟨g, 0, none⟩) (p + 1) kc) none (some (.int .i64 (p : Int))) none).run Try.prog u = .ok (.slice (some ⟨g, 0, none⟩) p kc) u := by
  intro u
  obtain ⟨i0, hi, hz0, hz1, hz2⟩ := info_parts Try.infoStr1
  have hsz : ∀ uu, (sizeOf 9).run Try.prog uu = .ok 1 uu := fun uu => by simp [sizeOf, typeInfo, hi, hz1]
  have hel : Try.prog.elem 73 = 9 := by kernel_rfl
  have hu : Try.prog.underlying 73 = some (.slice (Try.prog.elem 73)) := by rw [hel]; exact Try.underlying73
  rw [run_slice_h u 73 (some ⟨g, 0, none⟩) _ kc hu .i64 _ (by omega) (by omega), hel, hsz]
  simp [Result.andThen, sliced, Addr.add_lit]
theorem sl_popV {g p kc : Nat} (hc : p + 1 ≤ kc) : ∀ u : World, (Instr.slice 74 (.slice (some ⟨g, 0, none⟩) (p + 1) kc) none (some (.int .i64 (p : Int))) none).run Try.prog u = .ok (.slice (some ⟨g, 0, none⟩) p kc) u := by
  intro u
  obtain ⟨i0, hi, hz0, hz1, hz2⟩ := info_parts Try.infoInt1
  have hsz : ∀ uu, (sizeOf 3).run Try.prog uu = .ok 1 uu := fun uu => by simp [sizeOf, typeInfo, hi, hz1]
  have hel : Try.prog.elem 74 = 3 := by kernel_rfl
  have hu : Try.prog.underlying 74 = some (.slice (Try.prog.elem 74)) := by rw [hel]; exact Try.underlying74
  rw [run_slice_h u 74 (some ⟨g, 0, none⟩) _ kc hu .i64 _ (by omega) (by omega), hel, hsz]
  simp [Result.andThen, sliced, Addr.add_lit]
theorem PutK {w W : World} {t : Nat} {lim : Int} {X : List (KV Int)} {ks : List ByteArray} {vs : List Int} {kv vv : Value} (h : KR w t lim X ks vs kv vv W) (k : ByteArray) (v : Int) (hk : KeyOk k) (hn : X.length ≤ 4000000000000) :
    Calls Try.prog 12 #[.pointer (some ⟨t, 0, none⟩), .string k, .int .i64 v] W fun e W' => e = .returned (.bool (took lim k X)) ∧ KR w t lim (putT lim k v X) ks vs kv vv W' ∧ Touch W W' [t] :=
  (PutI_any k v t lim X W h.1 hk (by omega)).mono fun e W' ⟨he, ht, tt⟩ => ⟨he, h.tab ht tt, tt⟩
theorem DelK {w W : World} {t : Nat} {lim : Int} {X : List (KV Int)} {ks : List ByteArray} {vs : List Int} {kv vv : Value} (h : KR w t lim X ks vs kv vv W) (k : ByteArray) (hn : X.length ≤ 4000000000000) :
    Calls Try.prog 16 #[.pointer (some ⟨t, 0, none⟩), .string k] W fun e W' => e = .returned (.bool (getL k X).isSome) ∧ KR w t lim (delT k X) ks vs kv vv W' :=
  (DeleteI_any k t lim X W h.1 (by omega)).mono fun e W' ⟨he, ht, tt⟩ => ⟨he, h.tab ht tt⟩
theorem GetK {w W : World} {t : Nat} {lim : Int} {X : List (KV Int)} {ks : List ByteArray} {vs : List Int} {kv vv : Value} (h : KR w t lim X ks vs kv vv W) (k : ByteArray) :
    Calls Try.prog 14 #[.pointer (some ⟨t, 0, none⟩), .string k] W fun e W' => e = .returned (.tuple #[.int .i64 ((getL k X).getD 0), .bool (getL k X).isSome]) ∧ W' = W :=
  (GetI_any k t lim X W h.1).mono fun e W' ⟨he, hw⟩ => ⟨by rw [he]; cases getL k X <;> rfl, hw⟩
theorem LenK {w W : World} {t : Nat} {lim : Int} {X Z : List (KV Int)} {ks : List ByteArray} {vs : List Int} {kv vv : Value} {m : Nat} (h : KR w t lim X ks vs kv vv W) (hr : Rel lim X Z) (hm : Z.length = m) :
    Calls Try.prog 18 #[.pointer (some ⟨t, 0, none⟩)] W fun e W' => e = .returned (.int .i64 (m : Int)) ∧ W' = W := by
  have := LenI_any t lim X W h.1
  rwa [hr.1.length_eq, hm] at this
theorem split_at (Z : List (KV Int)) (j : Nat) (hj : j < Z.length) (k : ByteArray) (hk : Z[j].1 = k) : ∃ A B u, Z = A ++ (k, u) :: B ∧ A.length = j := by
  refine ⟨Z.take j, Z.drop (j + 1), Z[j].2, ?_, by rw [List.length_take]; omega⟩
  have e : (k, Z[j].2) = Z[j] := by rw [← hk]
  rw [e, ← List.drop_eq_getElem_cons hj, List.take_append_drop]
theorem okA {A B : List (KV Int)} {k : ByteArray} {u : Int} (v : Int) (h : ∀ x ∈ A ++ (k, u) :: B, KeyOk x.1) : ∀ x ∈ A ++ (k, v) :: B, KeyOk x.1 := by
  intro x hx
  rcases List.mem_append.1 hx with hx | hx
  · exact h x (by simp [hx])
  · rcases List.mem_cons.1 hx with rfl | hx
    · exact h (k, u) (by simp)
    · exact h x (by simp [hx])
theorem okD {Z : List (KV Int)} (j p : Nat) (hp : p < Z.length) (h : ∀ x ∈ Z, KeyOk x.1) : ∀ x ∈ (Z.set j Z[p]).take p, KeyOk x.1 := by
  intro x hx
  rcases List.mem_or_eq_of_mem_set (List.mem_of_mem_take hx) with hx | rfl
  · exact h x hx
  · exact h _ (List.getElem_mem hp)
theorem okP {Z : List (KV Int)} {k : ByteArray} (v : Int) (hk : KeyOk k) (h : ∀ x ∈ Z, KeyOk x.1) : ∀ x ∈ Z ++ [(k, v)], KeyOk x.1 := by
  intro x hx
  rcases List.mem_append.1 hx with hx | hx
  · exact h x hx
  · simp at hx; subst hx; exact hk
end Go.Proofs.Ytldmiieepikjnaa
