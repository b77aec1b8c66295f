/- table: the reference's Put, Delete, All, From. Own work. -/
import Derived.Test.YtldmiieepikjnaaTbRef1
import Derived.Deep.DeepCutAuto
set_option linter.unusedVariables false
set_option linter.unusedSimpArgs false
namespace Go.Proofs.Ytldmiieepikjnaa
open Go Go.RowKit

theorem Try.infoItem : (Try.prog.info? 51).map (fun i => (i.zero, i.size, i.bytes)) = some (some (.agg #[.string ⟨#[]⟩, .int .i64 0]), 2, 24) := by kernel_rfl
theorem Its_app (xs ys : List (KV Int)) : Its (xs ++ ys) = Its xs ++ Its ys := List.flatMap_append
theorem Its_set : ∀ (xs : List (KV Int)) (i : Nat) (x : KV Int), i < xs.length → Its (xs.set i x) = ((Its xs).set (i * 2) (.string x.1)).set (i * 2 + 1) (.int .i64 x.2)
  | y :: xs, 0, x, _ => rfl
  | y :: xs, i + 1, x, h => by
    have := Its_set xs i x (by simpa using h)
    rw [show (i + 1) * 2 = i * 2 + 2 by omega]
    show It y ++ Its (xs.set i x) = _
    rw [this]
    rfl
theorem OwnIt.set {w : World} {base g n cap : Nat} {xs : List (KV Int)} (h : OwnIt w base (.slice (some ⟨g, 0, none⟩) n cap) xs) (i : Nat) (hi : i < xs.length) (x : KV Int) :
    OwnIt ((w.setCell ⟨g, i * 2, none⟩ (.string x.1)).setCell ⟨g, i * 2 + 1, none⟩ (.int .i64 x.2)) base (.slice (some ⟨g, 0, none⟩) n cap) (xs.set i x) := by
  obtain ⟨hl, ⟨h0, _⟩ | ⟨g', cap', cur, he, hb, hg, hnc, hcm, hcs, ht⟩⟩ := h
  · cases h0
  · simp only [Value.slice.injEq, Option.some.injEq, Addr.mk.injEq] at he
    obtain ⟨⟨rfl, _⟩, hnn, rfl⟩ := he
    refine ⟨by rw [Its_length, List.length_set], .inr ⟨g, cap, (cur.setIfInBounds (i * 2) (.string x.1)).setIfInBounds (i * 2 + 1) (.int .i64 x.2), by rw [hnn, List.length_set], hb, ?_, by rw [List.length_set]; exact hnc, hcm, by simp [hcs], ?_⟩⟩
    · exact heap_setCell_same _ _ _ _ _ _ (heap_setCell_same _ _ _ _ _ _ hg)
    · rw [List.length_set, Its_set xs i x hi, ← ht]
      simp only [Array.toList_setIfInBounds, List.take_set]
theorem OwnIt.setV {w : World} {base g n cap : Nat} {xs : List (KV Int)} (h : OwnIt w base (.slice (some ⟨g, 0, none⟩) n cap) xs) (i : Nat) (hi : i < xs.length) (k : ByteArray) (hk : xs[i].1 = k) (y : Int) :
    OwnIt (w.setCell ⟨g, i * 2 + 1, none⟩ (.int .i64 y)) base (.slice (some ⟨g, 0, none⟩) n cap) (xs.set i (k, y)) := by
  obtain ⟨hl, ⟨h0, _⟩ | ⟨g', cap', cur, he, hb, hg, hnc, hcm, hcs, ht⟩⟩ := h
  · cases h0
  · simp only [Value.slice.injEq, Option.some.injEq, Addr.mk.injEq] at he
    obtain ⟨⟨rfl, _⟩, hnn, rfl⟩ := he
    refine ⟨by rw [Its_length, List.length_set], .inr ⟨g, cap, cur.setIfInBounds (i * 2 + 1) (.int .i64 y), by rw [hnn, List.length_set], hb, ?_, by rw [List.length_set]; exact hnc, hcm, by simp [hcs], ?_⟩⟩
    · exact heap_setCell_same _ _ _ _ _ _ hg
    · have h2 := (Its_at xs i hi).1
      have hlt2 : i * 2 < (Its xs).length := by rw [Its_length]; omega
      have h3 : (Its xs)[i * 2] = .string xs[i].1 := by
        have := h2
        rw [List.getElem?_eq_getElem hlt2] at this
        exact Option.some.inj this
      have e : (Its xs).set (i * 2) (.string xs[i].1) = Its xs := by rw [← h3]; exact List.set_getElem_self hlt2
      rw [List.length_set, Its_set xs i (k, y) hi]
      dsimp only
      rw [← hk, e, ← ht]
      simp only [Array.toList_setIfInBounds, List.take_set]
/-- append of one item. -/
theorem wpList_pushIt {ops : Array Oper} {rest : List Oper} {o : Oper} {a : Act} {Q : Exit → Act → World → Prop} (w : World) (hgd : o.guard = none) (s x : Operand)
    (ho : o.op = .call { callee := .builtin .append, args := #[s, x], argTypes := #[39, 39] }) (base : Nat) (v : Value) (xs : List (KV Int)) (x0 : KV Int) (g : Nat) (hs : a.eval s = v) (hx : a.eval x = .slice (some ⟨g, 0, none⟩) 1 1)
    (how : OwnIt w base v xs) (hg0 : w.cell? ⟨g, 0, none⟩ = some (.string x0.1)) (hg1 : w.cell? ⟨g, 1, none⟩ = some (.int .i64 x0.2)) (hbase : base ≤ w.heap.size) (hl : xs.length ≤ 4000000000000)
    (hK : ∀ v' w', OwnIt w' base v' (xs ++ [x0]) → w.grownBy w' v.ownBlock → (v'.ownBlock = v.ownBlock ∨ v'.ownBlock = some w.heap.size) → wpList Try.prog ops Q rest (a.put o.dst v') w') : wpList Try.prog ops Q (o :: rest) a w := by
  obtain ⟨i0, hi, hz0, hz1, hz2⟩ := info_parts Try.infoItem
  have hnews : ∀ j u, (It x0)[j]? = some u → w.cell? ((⟨g, 0, none⟩ : Addr).add j) = some u := by
    intro j u hj
    rw [Addr.add_lit]
    match j, hj with
    | 0, hj => simp at hj; subst hj; exact hg0
    | 1, hj => simp at hj; subst hj; exact hg1
    | j + 2, hj => simp at hj
  have hone : ∀ u ∈ It x0, u.oneCell' = true := by
    intro u hu
    simp only [List.mem_cons, List.not_mem_nil, or_false] at hu
    rcases hu with rfl | rfl <;> rfl
  obtain ⟨v', w', hr, r1, r2, r3, r4⟩ := run_append_own_at (P := Try.prog) w base 39 o.type 51 i0 (.agg #[.string ⟨#[]⟩, .int .i64 0]) 2 24 Try.underlying39 hi hz0 hz1 hz2 rfl (by decide) v xs.length (Its xs) how ⟨g, 0, none⟩ 1 1 (It x0) rfl hnews hone (by unfold maxLen; omega) (by omega) hbase
  refine wpList_plain hgd fun K hKK => ?_
  unfold Oper.wp execOp
  simp only [ho, resolve, invoke, builtin, Sem.run_bind, Sem.run_pure, Result.andThen_ok, List.map_toArray, List.map_cons, List.map_nil, hs, hx, hr]
  exact hKK _ _ (hK v' w' (by rw [OwnIt, List.length_append, Its_app]; exact r1) r2 r4)

theorem rPut_nil (k : ByteArray) (y : Int) (w : World) : Calls Try.prog 13 #[.pointer none, .string k, .int .i64 y] w fun e w' => e = .returned (.bool false) ∧ w' = w := by
  go_enter Try.func13, Try.ntmps13
  go_wp2
  go_ret
  exact ⟨rfl, rfl⟩
theorem rDelete_nil (k : ByteArray) (w : World) : Calls Try.prog 17 #[.pointer none, .string k] w fun e w' => e = .returned (.bool false) ∧ w' = w := by
  go_enter Try.func17, Try.ntmps17
  go_wp2
  go_ret
  exact ⟨rfl, rfl⟩

/-- What a change of the reference's table leaves. -/
def RDone (w : World) (b : Nat) (v : Value) (lim : Int) (ys : List (KV Int)) (w' : World) : Prop := ∃ v', RTab w' b v' lim ys ∧ Touch w w' (b :: ob v) ∧ ∀ k ∈ ob v', k ∈ ob v ∨ w.heap.size ≤ k
theorem RDone.same {w w' : World} {b : Nat} {v : Value} {lim : Int} {xs : List (KV Int)} (h : RTab w b v lim xs) (u : Up w w') : RDone w b v lim xs w' := ⟨v, h.up u, Touch.of_up u _, fun k hk => .inl hk⟩

theorem getL_lt {xs : List (KV Int)} {k : ByteArray} {u : Int} (hs : Srt xs) (hg : getL k xs = some u) : ∃ h : pl k xs < xs.length, xs[pl k xs].1 = k ∧ xs[pl k xs].2 = u := by
  have hlt : pl k xs < xs.length := Classical.byContradiction fun c => by rw [none_pl hs k c] at hg; cases hg
  obtain ⟨h1, h2⟩ := here_pl hs k hlt
  rw [hg] at h1
  have e : xs[pl k xs].1 = k := by simpa using h1.symm
  refine ⟨hlt, e, ?_⟩
  have := h2 e
  rw [hg] at this
  exact (Option.some.inj this).symm

set_option maxHeartbeats 2000000 in
theorem rPut_found (k : ByteArray) (y u : Int) (b : Nat) (v : Value) (lim : Int) (xs : List (KV Int)) (w : World) (h : RTab w b v lim xs) (hk : KeyOk k) (hn : xs.length ≤ 4000000000000) (hg : getL k xs = some u) :
    Calls Try.prog 13 #[.pointer (some ⟨b, 0, none⟩), .string k, .int .i64 y] w fun e w' => e = .returned (.bool true) ∧ RDone w b v lim (putL k y xs) w' := by
  have qp := place_any k b v lim xs w h hk (by omega)
  have qh : ∀ {w' : World}, Up w w' → Calls Try.prog 48 #[.pointer (some ⟨b, 0, none⟩), .int .i64 (pl k xs : Int), .string k] w' fun e w'' => e = .returned (.bool (getL k xs).isSome) ∧ w'' = w' := fun u => has_any k b v lim xs _ (h.up u) (by omega)
  rw [hg] at qh
  obtain ⟨hlt, hkk, huu⟩ := getL_lt h.2.2.1 hg
  rcases h.2.1.2 with ⟨rfl, h0⟩ | ⟨g, cap, cur, rfl, hb, hg0, hnc, hcm, hcs, ht⟩
  · omega
  have hne := h.ne
  have hgb : b ≠ g := by simpa [ob, Value.ownBlock] using hne
  have sof : ∀ {w' : World}, Up w w' → w'.cell? ⟨b, 0, none⟩ = some (.slice (some ⟨g, 0, none⟩) xs.length cap) ∧ (∃ z, w'.cell? ⟨g, pl k xs * 2 + 1, none⟩ = some (.int .i64 z)) ∧ w'.frozen? ⟨g, pl k xs * 2 + 1, none⟩ = false := fun {w'} uu => by
    obtain ⟨ao, cap', he, _, hx⟩ := (h.up uu).2.1.sl
    simp only [Value.slice.injEq] at he
    obtain ⟨rfl, _, rfl⟩ := he
    obtain ⟨g', o, he, hcell⟩ := hx (by rintro rfl; simp at hlt)
    simp only [Option.some.injEq, Addr.mk.injEq] at he
    obtain ⟨rfl, rfl, _⟩ := he
    exact ⟨(h.up uu).cells.1, ⟨_, by have := (hcell _ hlt).2; rwa [Nat.zero_add] at this⟩, by simp [World.frozen?, (uu.block g (Array.getElem?_eq_some_iff.1 hg0).1).trans hg0]⟩
  have fin : ∀ {w1 : World}, Up w w1 → RDone w b (.slice (some ⟨g, 0, none⟩) xs.length cap) lim (putL k y xs) (w1.setCell ⟨g, pl k xs * 2 + 1, none⟩ (.int .i64 y)) := fun {w1} uu => by
    have h1 := h.up uu
    refine ⟨_, ⟨?_, ?_, srt_put h.2.2.1 _ _, ?_⟩, (Touch.of_up uu _).setCell (.inl (by simp [ob, Value.ownBlock])) _ _, fun k hk => .inl hk⟩
    · rw [heap_setCell_other _ ⟨g, _, none⟩ _ _ hgb]; exact h1.1
    · rw [put_some h.2.2.1 hg]; exact h1.2.1.setV _ hlt k hkk y
    · intro x hx
      rw [put_some h.2.2.1 hg] at hx
      rcases List.mem_or_eq_of_mem_set hx with e | e
      · exact h.2.2.2 x e
      · rw [e]; exact hk
  obtain ⟨P, hP⟩ : ∃ P, pl k xs = P := ⟨_, rfl⟩
  obtain ⟨N, hN⟩ : ∃ N, xs.length = N := ⟨_, rfl⟩
  simp only [hP] at qh
  rw [hP] at hlt qp
  rw [hN] at hn hlt
  simp only [hN, hP] at sof fin
  have hPi : (P : Int) < (N : Int) := by omega
  have hNb : (N : Int) ≤ 4000000000000 := by omega
  rw [hN]
  clear h hP hN hlt hn huu hkk hg hb hg0 hnc hcm hcs ht hne hgb
  go_enter Try.func13, Try.ntmps13
  go_wp2_with (first
    | (go_at_call 47; refine qp.mono ?_; clear qp; rintro e w1 ⟨rfl, u1⟩; obtain ⟨z1, ⟨zz, z2⟩, z3⟩ := sof u1)
    | (go_at_call 48; refine (qh u1).mono ?_; clear qh; rintro e w2 ⟨rfl, hw⟩; obtain rfl : w1 = w2 := hw.symm))
  go_ret
  exact ⟨rfl, fin u1⟩
end Go.Proofs.Ytldmiieepikjnaa
