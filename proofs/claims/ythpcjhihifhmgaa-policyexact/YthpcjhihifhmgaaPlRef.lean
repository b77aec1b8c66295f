/- policy: the reference's Valid, Form, Fits, Left, Covers and Max. -/
import Derived.Test.YthpcjhihifhmgaaPlAny
import Derived.Test.YthpcjhihifhmgaaGcRefR
import Derived.Test.YthpcjhihifhmgaaWnRef
set_option linter.unusedVariables false
namespace Go.Proofs.Ythpcjhihifhmgaa
open Go Go.RowKit

theorem pvalid_iff {k : Int} {g s l p : Nat} : pValid ⟨k, g, s, l, p⟩ = true ↔ (k = 1 ∧ 1 ≤ g ∧ l = 0 ∧ p = 0) ∨ (k = 2 ∧ 1 ≤ p ∧ g = 0 ∧ s = 0) := decide_eq_true_iff
theorem rvalid_any (k : Int) (g s l p : Nat) (w : World) : Calls Try.prog 24 #[Pv k g s l p] w fun e w' => e = .returned (.bool (pValid ⟨k, g, s, l, p⟩)) ∧ Up w w' := by
  obtain ⟨o, ho⟩ : ∃ o, pValid ⟨k, g, s, l, p⟩ = o := ⟨_, rfl⟩
  rw [ho]
  replace ho : Hid (pValid ⟨k, g, s, l, p⟩ = o) := ho
  go_enter Try.func24, Try.ntmps24
  go_wp2
  all_goals
    go_ret
    refine ⟨?_, Up.alloc _ _⟩
    refine congrArg (fun b => Ending.returned (Value.bool b)) (?_ : _ = _)
    rw [← ho.out, Bool.eq_iff_iff, pvalid_iff]
    clear ho
    simp at *
    try omega
theorem rvalid_call (P : Pol) (w : World) : Calls Try.prog 24 #[PP P] w fun e w' => e = .returned (.bool (pValid P)) ∧ Up w w' := rvalid_any P.k P.g P.s P.l P.p w

theorem is_k {P : Pol} (h : pValid P = true) : P.F ∧ P.k = 1 ∨ P.G ∧ ((P.k : Int) == 1) = false := by
  have := of_decide_eq_true h
  rcases this with h | h
  · exact Or.inl ⟨h, h.1⟩
  · exact Or.inr ⟨h, by have := h.1; simp; omega⟩

set_option maxHeartbeats 800000 in
theorem rform_walk (k : Int) (g s l p t i c x y z : Nat) (o : Bool) (kv : ∀ w, Calls Try.prog 24 #[Pv k g s l p] w fun e w' => e = .returned (.bool o) ∧ Up w w')
    (h : Hid (o = false ∧ x = 0 ∧ y = 0 ∧ z = 0 ∨ o = true ∧ k = 1 ∧ x = t ∧ y = 0 ∧ z = 0 ∨ o = true ∧ ((k : Int) == 1) = false ∧ x = 0 ∧ y = i ∧ z = c)) (w : World) :
    Calls Try.prog 36 #[Pv k g s l p, Lv t i c] w fun e w' => e = .returned (Lv x y z) ∧ Up w w' := by
  go_enter Try.func36, Try.ntmps36
  go_wp2_with fail
  refine (kv _).mono ?_
  rintro e w1 ⟨rfl, u1⟩
  have b0 : Box w1 w.heap.size #[.int .i64 k, V g, V s, V l, V p] := (((Box.new _ _ _).alloc _).alloc _).up u1
  have b1 : Box w1 (w.heap.size + 1) #[V t, V i, V c] := ((Box.newAt (by simp)).alloc _).up u1
  have b3 : Box w1 (w.heap.size + 1 + 1) #[Z, Z, Z] := (Box.newAt (by simp)).up u1
  have v1 := (up3 w _ _ _).trans u1
  clear u1 kv
  obtain ⟨c0, c1, c2, c3, c4⟩ := b0.c5
  obtain ⟨d0, d1, d2⟩ := b1.c3
  obtain ⟨f0, f1, f2⟩ := b3.c3
  have ff := b3.frozen
  have zz := b3.lt
  rcases h.out with ⟨rfl, rfl, rfl, rfl⟩ | ⟨rfl, rfl, rfl, rfl, rfl⟩ | ⟨rfl, hk, rfl, rfl, rfl⟩
  all_goals
    clear h
    go_wp2
  · have b4 := b3.set3 (x := Z) (y := Z) (z := Z)
    have v4 := Up.set3 v1 (k := w.heap.size + 1 + 1) (by omega) Z Z Z
    clear c0 c1 c2 c3 c4 d0 d1 d2 f0 f1 f2 ff
    obtain ⟨d0, d1, d2⟩ := b4.c3
    generalize World.setCell _ _ _ = w4 at *
    exact bodyPost_ret (v := .agg #[Z, Z, Z]) (by simp [results, Try.results36, go_sem, d0, d1, d2]) rfl ⟨rfl, v4⟩
  · have b4 := b3.set3 (x := V x) (y := Z) (z := Z)
    have v4 := Up.set3 v1 (k := w.heap.size + 1 + 1) (by omega) (V x) Z Z
    clear c0 c1 c2 c3 c4 d0 d1 d2 f0 f1 f2 ff
    obtain ⟨d0, d1, d2⟩ := b4.c3
    generalize World.setCell _ _ _ = w4 at *
    exact bodyPost_ret (v := .agg #[V x, Z, Z]) (by simp [results, Try.results36, go_sem, d0, d1, d2]) rfl ⟨rfl, v4⟩
  · have b4 := b3.set3 (x := Z) (y := V y) (z := V z)
    have v4 := Up.set3 v1 (k := w.heap.size + 1 + 1) (by omega) Z (V y) (V z)
    clear c0 c1 c2 c3 c4 d0 d1 d2 f0 f1 f2 ff
    obtain ⟨d0, d1, d2⟩ := b4.c3
    generalize World.setCell _ _ _ = w4 at *
    exact bodyPost_ret (v := .agg #[Z, V y, V z]) (by simp [results, Try.results36, go_sem, d0, d1, d2]) rfl ⟨rfl, v4⟩
theorem rform_call (P : Pol) (v : Lev) (w : World) : Calls Try.prog 36 #[PP P, LL v] w fun e w' => e = .returned (LL (pForm P v)) ∧ Up w w' := by
  refine rform_walk P.k P.g P.s P.l P.p v.t v.i v.c _ _ _ (pValid P) (rvalid_call P) ?_ w
  cases h : pValid P
  · have hn : ¬ (P.F ∨ P.G) := of_decide_eq_false h
    have e : pForm P v = Lev0 := by unfold pForm; rw [if_neg (fun k => hn (Or.inl k)), if_neg (fun k => hn (Or.inr k))]
    rw [e]; exact Or.inl ⟨rfl, rfl, rfl, rfl⟩
  · rcases is_k h with ⟨hF, hk⟩ | ⟨hG, hk⟩
    · rw [show pForm P v = _ from if_pos hF]; exact Or.inr (Or.inl ⟨rfl, hk, rfl, rfl, rfl⟩)
    · rw [show pForm P v = ⟨0, v.i, v.c⟩ by unfold pForm; rw [if_neg (fun k => f_not_g k hG), if_pos hG]]; exact Or.inr (Or.inr ⟨rfl, hk, rfl, rfl, rfl⟩)

set_option maxHeartbeats 800000 in
theorem rleft_walk (k : Int) (g s l p t i c now L : Nat) (o : Bool) (kv : ∀ w, Calls Try.prog 24 #[Pv k g s l p] w fun e w' => e = .returned (.bool o) ∧ Up w w')
    (h : Hid (o = false ∧ L = 0 ∨ o = true ∧ k = 1 ∧ (∀ w, Calls Try.prog 41 #[V g, V s, V t, V now] w fun e w' => e = .returned (V L) ∧ Up w w') ∨ o = true ∧ ((k : Int) == 1) = false ∧ (∀ w, Calls Try.prog 42 #[V l, V p, V i, V c, V now] w fun e w' => e = .returned (V L) ∧ Up w w'))) (w : World) :
    Calls Try.prog 27 #[Pv k g s l p, Lv t i c, V now] w fun e w' => e = .returned (V L) ∧ Up w w' := by
  go_enter Try.func27, Try.ntmps27
  go_wp2_with fail
  refine (kv _).mono ?_
  rintro e w1 ⟨rfl, u1⟩
  have b0 : Box w1 w.heap.size #[.int .i64 k, V g, V s, V l, V p] := ((Box.new _ _ _).alloc _).up u1
  have b1 : Box w1 (w.heap.size + 1) #[V t, V i, V c] := (Box.newAt (by simp)).up u1
  have v1 := (up2 w _ _).trans u1
  clear u1 kv
  obtain ⟨c0, c1, c2, c3, c4⟩ := b0.c5
  obtain ⟨d0, d1, d2⟩ := b1.c3
  rcases h.out with ⟨rfl, rfl⟩ | ⟨rfl, rfl, kb⟩ | ⟨rfl, hk, kb⟩
  · clear h
    go_wp2
    go_ret
    exact ⟨rfl, v1⟩
  all_goals
    clear h
    go_wp2_with fail
    refine (kb _).mono ?_
    rintro e w2 ⟨rfl, u2⟩
    go_wp2
    go_ret
    exact ⟨rfl, v1.trans u2⟩
theorem rleft_call (P : Pol) (v : Lev) (now : Nat) (hP : P.Ok) (hv : v.Ok) (hw : N64 now) (w : World) :
    Calls Try.prog 27 #[PP P, LL v, V now] w fun e w' => e = .returned (V (pLeft P v now)) ∧ Up w w' := by
  refine rleft_walk P.k P.g P.s P.l P.p v.t v.i v.c now _ (pValid P) (rvalid_call P) ?_ w
  cases h : pValid P
  · have hn : ¬ (P.F ∨ P.G) := of_decide_eq_false h
    exact Or.inl ⟨rfl, by unfold pLeft; rw [if_neg (fun k => hn (Or.inl k)), if_neg (fun k => hn (Or.inr k))]⟩
  · rcases is_k h with ⟨hF, hk⟩ | ⟨hG, hk⟩
    · refine Or.inr (Or.inl ⟨rfl, hk, fun w => ?_⟩)
      rw [show pLeft P v now = _ from if_pos hF]
      exact rBurst_any P.g P.s v.t now hP.g hP.s hv.t hw w
    · refine Or.inr (Or.inr ⟨rfl, hk, fun w => ?_⟩)
      rw [show pLeft P v now = wLeft P.l P.p v.i v.c now by unfold pLeft; rw [if_neg (fun k => f_not_g k hG), if_pos hG]]
      exact (rLeft_any P.l P.p v.i v.c now hP.l hw w).mono (fun e w' h => ⟨h.1, by first | exact h.2 | (rw [h.2]; exact Up.refl _)⟩)

theorem gcov_iff6 {c v : Lev} : gCov c v = true ↔ v.i < c.i ∨ v.i = c.i ∧ v.c ≤ c.c := by simp [gCov]

set_option maxHeartbeats 800000 in
theorem rcovers_walk (k : Int) (g s l p t i c t' i' c' : Nat) (o q : Bool) (kv : ∀ w, Calls Try.prog 24 #[Pv k g s l p] w fun e w' => e = .returned (.bool o) ∧ Up w w')
    (h : Hid (o = false ∧ q = false ∨ o = true ∧ k = 1 ∧ q = decide (t' ≤ t) ∨ o = true ∧ ((k : Int) == 1) = false ∧ q = gCov ⟨t, i, c⟩ ⟨t', i', c'⟩)) (w : World) :
    Calls Try.prog 28 #[Pv k g s l p, Lv t i c, Lv t' i' c'] w fun e w' => e = .returned (.bool q) ∧ Up w w' := by
  go_enter Try.func28, Try.ntmps28
  go_wp2_with fail
  refine (kv _).mono ?_
  rintro e w1 ⟨rfl, u1⟩
  have b0 : Box w1 w.heap.size #[.int .i64 k, V g, V s, V l, V p] := (((Box.new _ _ _).alloc _).alloc _).up u1
  have b1 : Box w1 (w.heap.size + 1) #[V t, V i, V c] := ((Box.newAt (by simp)).alloc _).up u1
  have b3 : Box w1 (w.heap.size + 1 + 1) #[V t', V i', V c'] := (Box.newAt (by simp)).up u1
  have v1 := (up3 w _ _ _).trans u1
  clear u1 kv
  obtain ⟨c0, c1, c2, c3, c4⟩ := b0.c5
  obtain ⟨d0, d1, d2⟩ := b1.c3
  obtain ⟨f0, f1, f2⟩ := b3.c3
  rcases h.out with ⟨rfl, rfl⟩ | ⟨rfl, rfl, rfl⟩ | ⟨rfl, hk, hq⟩
  · clear h
    go_wp2
    go_ret
    exact ⟨rfl, v1⟩
  · clear h
    go_wp2
    go_ret
    exact ⟨rfl, v1⟩
  · replace hq : Hid (q = gCov ⟨t, i, c⟩ ⟨t', i', c'⟩) := hq
    clear h
    by_cases hi : i' = i
    · subst hi
      have hq2 : q = decide (c' ≤ c) := by rw [hq.out, Bool.eq_iff_iff, gcov_iff6]; simp
      subst hq2
      clear hq
      go_wp2
      go_ret
      exact ⟨rfl, v1⟩
    · have hi' : ((i' : Int) == (i : Int)) = false := by simp; omega
      have hq2 : q = decide (i' < i) := by rw [hq.out, Bool.eq_iff_iff, gcov_iff6]; simp; omega
      subst hq2
      clear hq hi
      go_wp2
      go_ret
      exact ⟨rfl, v1⟩
theorem rcovers_call (P : Pol) (c v : Lev) (w : World) : Calls Try.prog 28 #[PP P, LL c, LL v] w fun e w' => e = .returned (.bool (pCov P c v)) ∧ Up w w' := by
  refine rcovers_walk P.k P.g P.s P.l P.p c.t c.i c.c v.t v.i v.c (pValid P) _ (rvalid_call P) ?_ w
  cases h : pValid P
  · have hn : ¬ (P.F ∨ P.G) := of_decide_eq_false h
    exact Or.inl ⟨rfl, by unfold pCov; rw [if_neg (fun k => hn (Or.inl k)), if_neg (fun k => hn (Or.inr k))]⟩
  · rcases is_k h with ⟨hF, hk⟩ | ⟨hG, hk⟩
    · exact Or.inr (Or.inl ⟨rfl, hk, if_pos hF⟩)
    · exact Or.inr (Or.inr ⟨rfl, hk, by unfold pCov; rw [if_neg (fun k => f_not_g k hG), if_pos hG]⟩)

set_option maxHeartbeats 800000 in
theorem rmax_walk (k : Int) (g s l p t i c t' i' c' x y z : Nat) (q : Bool)
    (kc : ∀ w, Calls Try.prog 28 #[Pv k g s l p, Lv t i c, Lv t' i' c'] w fun e w' => e = .returned (.bool q) ∧ Up w w')
    (ka : Hid (q = true → ∀ w, Calls Try.prog 36 #[Pv k g s l p, Lv t i c] w fun e w' => e = .returned (Lv x y z) ∧ Up w w'))
    (kb : Hid (q = false → ∀ w, Calls Try.prog 36 #[Pv k g s l p, Lv t' i' c'] w fun e w' => e = .returned (Lv x y z) ∧ Up w w')) (w : World) :
    Calls Try.prog 29 #[Pv k g s l p, Lv t i c, Lv t' i' c'] w fun e w' => e = .returned (Lv x y z) ∧ Up w w' := by
  go_enter Try.func29, Try.ntmps29
  go_wp2_with fail
  refine (kc _).mono ?_
  rintro e w1 ⟨rfl, u1⟩
  have b0 : Box w1 w.heap.size #[.int .i64 k, V g, V s, V l, V p] := ((((Box.new _ _ _).alloc _).alloc _).alloc _).up u1
  have b1 : Box w1 (w.heap.size + 1) #[V t, V i, V c] := (((Box.newAt (by simp)).alloc _).alloc _).up u1
  have b2 : Box w1 (w.heap.size + 1 + 1) #[V t', V i', V c'] := ((Box.newAt (by simp)).alloc _).up u1
  have b3 : Box w1 (w.heap.size + 1 + 1 + 1) #[Z, Z, Z] := (Box.newAt (by simp)).up u1
  have v1 := ((up3 w _ _ _).trans (Up.alloc _ _)).trans u1
  clear u1 kc
  obtain ⟨c0, c1, c2, c3, c4⟩ := b0.c5
  obtain ⟨d0, d1, d2⟩ := b1.c3
  obtain ⟨f0, f1, f2⟩ := b2.c3
  cases q
  · replace kb := kb.out rfl
    clear ka
    go_wp2_with fail
    refine (kb _).mono ?_
    rintro e w2 ⟨rfl, u2⟩
    replace b3 := b3.up u2
    replace v1 := v1.trans u2
    clear u2 kb c0 c1 c2 c3 c4 d0 d1 d2 f0 f1 f2
    obtain ⟨f0, f1, f2⟩ := b3.c3
    have ff := b3.frozen
    have zz := b3.lt
    go_wp2
    have b4 := b3.set3 (x := V x) (y := V y) (z := V z)
    have v4 := Up.set3 v1 (k := w.heap.size + 1 + 1 + 1) (by omega) (V x) (V y) (V z)
    clear f0 f1 f2 ff
    obtain ⟨d0, d1, d2⟩ := b4.c3
    generalize World.setCell _ _ _ = w4 at *
    exact bodyPost_ret (v := Lv x y z) (by simp [results, Try.results29, go_sem, d0, d1, d2]) rfl ⟨rfl, v4⟩
  · replace ka := ka.out rfl
    clear kb
    go_wp2_with fail
    refine (ka _).mono ?_
    rintro e w2 ⟨rfl, u2⟩
    replace b3 := b3.up u2
    replace v1 := v1.trans u2
    clear u2 ka c0 c1 c2 c3 c4 d0 d1 d2 f0 f1 f2
    obtain ⟨f0, f1, f2⟩ := b3.c3
    have ff := b3.frozen
    have zz := b3.lt
    go_wp2
    have b4 := b3.set3 (x := V x) (y := V y) (z := V z)
    have v4 := Up.set3 v1 (k := w.heap.size + 1 + 1 + 1) (by omega) (V x) (V y) (V z)
    clear f0 f1 f2 ff
    obtain ⟨d0, d1, d2⟩ := b4.c3
    generalize World.setCell _ _ _ = w4 at *
    exact bodyPost_ret (v := Lv x y z) (by simp [results, Try.results29, go_sem, d0, d1, d2]) rfl ⟨rfl, v4⟩
theorem rmax_call (P : Pol) (a b : Lev) (w : World) : Calls Try.prog 29 #[PP P, LL a, LL b] w fun e w' => e = .returned (LL (pMax P a b)) ∧ Up w w' := by
  refine rmax_walk P.k P.g P.s P.l P.p a.t a.i a.c b.t b.i b.c _ _ _ (pCov P a b) (rcovers_call P a b) (fun h w => ?_) (fun h w => ?_) w
  · rw [show pMax P a b = pForm P a from if_pos h]; exact rform_call P a w
  · rw [show pMax P a b = pForm P b from if_neg (by rw [h]; decide)]; exact rform_call P b w
end Go.Proofs.Ythpcjhihifhmgaa
