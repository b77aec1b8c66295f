/- policy: whether a policy is one, in the numbers of PlNum. -/
import Derived.Test.YtffldmeocmemeaaDoorPlRule
set_option linter.unusedVariables false
namespace Go.Proofs.YtffldmeocmemeaaDoor
open Go Go.RowKit

set_option maxHeartbeats 1600000 in
theorem Valid_kind (k : Int) (g s l p f0 f1 f2 f3 f4 f5 : Nat) (R : Value) (o : Bool) (hR : R = (if o then .agg #[fnV f0, fnV f1, fnV f2, fnV f3, fnV f4, fnV f5] else Rule0))
    (kr : ∀ w, Calls Tryd.prog 44 #[Pv k g s l p] w fun e w' => e = .returned (.tuple #[R, .bool o]) ∧ Up w w') (w : World) :
    Calls Tryd.prog 73 #[Pv k g s l p] w fun e w' => e = .returned (.bool o) ∧ Up w w' := by
  cases o
  · obtain rfl : R = Rule0 := hR
    go_enter Tryd.func73, Tryd.ntmps73
    go_wp2_with fail
    refine (kr _).mono ?_
    rintro e w1 ⟨rfl, u1⟩
    go_wp2
    go_ret
    exact ⟨rfl, (Up.alloc _ _).trans (u1.trans (Up.alloc _ _))⟩
  · obtain rfl : R = .agg #[fnV f0, fnV f1, fnV f2, fnV f3, fnV f4, fnV f5] := hR
    go_enter Tryd.func73, Tryd.ntmps73
    go_wp2_with fail
    refine (kr _).mono ?_
    rintro e w1 ⟨rfl, u1⟩
    go_wp2
    go_ret
    exact ⟨rfl, (Up.alloc _ _).trans (u1.trans (Up.alloc _ _))⟩

structure Pol.Ok (P : Pol) : Prop where
  g : N64 P.g
  s : N64 P.s
  l : N64 P.l
  p : N64 P.p
structure Lev.Ok (v : Lev) : Prop where
  t : N64 v.t
  i : N64 v.i
  c : N64 v.c
abbrev PP (P : Pol) : Value := Pv P.k P.g P.s P.l P.p
abbrev LL (v : Lev) : Value := Lv v.t v.i v.c

theorem ruleOf_F (P : Pol) (h : P.F) (w : World) : Calls Tryd.prog 44 #[PP P] w fun e w' => e = .returned (.tuple #[RuleF, .bool true]) ∧ Up w w' := by
  obtain ⟨k, g, s, l, p⟩ := P
  obtain ⟨h1, h2, h3, h4⟩ := h
  simp only at h1 h2 h3 h4
  subst h1 h3 h4
  exact ruleOf_flow g s 0 0 true (by simp; omega) w
theorem ruleOf_G (P : Pol) (h : P.G) (w : World) : Calls Tryd.prog 44 #[PP P] w fun e w' => e = .returned (.tuple #[RuleG, .bool true]) ∧ Up w w' := by
  obtain ⟨k, g, s, l, p⟩ := P
  obtain ⟨h1, h2, h3, h4⟩ := h
  simp only at h1 h2 h3 h4
  subst h1 h3 h4
  exact ruleOf_grid 0 0 l p true (by simp; omega) w
theorem ruleOf_none (P : Pol) (hF : ¬ P.F) (hG : ¬ P.G) (w : World) : Calls Tryd.prog 44 #[PP P] w fun e w' => e = .returned (.tuple #[Rule0, .bool false]) ∧ Up w w' := by
  obtain ⟨k, g, s, l, p⟩ := P
  unfold Pol.F at hF
  unfold Pol.G at hG
  simp only at hF hG
  have : k < 1 ∨ 2 < k ∨ k = 1 ∨ k = 2 := by omega
  rcases this with h | h | h | h
  · exact ruleOf_less k g s l p h w
  · exact ruleOf_more k g s l p h w
  · subst h
    exact ruleOf_flow g s l p false (by simp; omega) w
  · subst h
    exact ruleOf_grid g s l p false (by simp; omega) w

theorem valid_call (P : Pol) (w : World) : Calls Tryd.prog 73 #[PP P] w fun e w' => e = .returned (.bool (pValid P)) ∧ Up w w' := by
  by_cases hF : P.F
  · rw [show pValid P = true from decide_eq_true (Or.inl hF)]
    exact Valid_kind _ _ _ _ _ _ _ _ _ _ _ _ true rfl (ruleOf_F P hF) w
  · by_cases hG : P.G
    · rw [show pValid P = true from decide_eq_true (Or.inr hG)]
      exact Valid_kind _ _ _ _ _ _ _ _ _ _ _ _ true rfl (ruleOf_G P hG) w
    · rw [show pValid P = false from decide_eq_false (fun h => h.elim hF hG)]
      exact Valid_kind _ _ _ _ _ 0 0 0 0 0 0 _ false rfl (ruleOf_none P hF hG) w
end Go.Proofs.YtffldmeocmemeaaDoor
