/- policy: what each call of the face answers, in the numbers of PlNum. -/
import Derived.Test.YthpcjhihifhmgaaPlFace
import Derived.Test.YthpcjhihifhmgaaPlFits
import Derived.Test.YthpcjhihifhmgaaPlAdmit
set_option linter.unusedVariables false
namespace Go.Proofs.Ythpcjhihifhmgaa
open Go Go.RowKit

structure Pol.Ok (P : Pol) : Prop where
  g : N64 P.g
  s : N64 P.s
  l : N64 P.l
  p : N64 P.p
structure Lev.Ok (v : Lev) : Prop where
  t : N64 v.t
  i : N64 v.i
  c : N64 v.c
abbrev PP (P : Pol) : Value := Pv P.k P.g P.s P.l P.p
abbrev LL (v : Lev) : Value := Lv v.t v.i v.c

theorem ruleOf_F (P : Pol) (h : P.F) (w : World) : Calls Try.prog 30 #[PP P] w fun e w' => e = .returned (.tuple #[RuleF, .bool true]) ∧ Up w w' := by
  obtain ⟨k, g, s, l, p⟩ := P
  obtain ⟨h1, h2, h3, h4⟩ := h
  simp only at h1 h2 h3 h4
  subst h1 h3 h4
  exact ruleOf_flow g s 0 0 true (by simp; omega) w
theorem ruleOf_G (P : Pol) (h : P.G) (w : World) : Calls Try.prog 30 #[PP P] w fun e w' => e = .returned (.tuple #[RuleG, .bool true]) ∧ Up w w' := by
  obtain ⟨k, g, s, l, p⟩ := P
  obtain ⟨h1, h2, h3, h4⟩ := h
  simp only at h1 h2 h3 h4
  subst h1 h3 h4
  exact ruleOf_grid 0 0 l p true (by simp; omega) w
theorem ruleOf_none (P : Pol) (hF : ¬ P.F) (hG : ¬ P.G) (w : World) : Calls Try.prog 30 #[PP P] w fun e w' => e = .returned (.tuple #[Rule0, .bool false]) ∧ Up w w' := by
  obtain ⟨k, g, s, l, p⟩ := P
  unfold Pol.F at hF
  unfold Pol.G at hG
  simp only at hF hG
  have : k < 1 ∨ 2 < k ∨ k = 1 ∨ k = 2 := by omega
  rcases this with h | h | h | h
  · exact ruleOf_less k g s l p h w
  · exact ruleOf_more k g s l p h w
  · subst h
    exact ruleOf_flow g s l p false (by simp; omega) w
  · subst h
    exact ruleOf_grid g s l p false (by simp; omega) w

theorem valid_call (P : Pol) (w : World) : Calls Try.prog 12 #[PP P] w fun e w' => e = .returned (.bool (pValid P)) ∧ Up w w' := by
  by_cases hF : P.F
  · rw [show pValid P = true from decide_eq_true (Or.inl hF)]
    exact Valid_kind _ _ _ _ _ _ _ _ _ _ _ _ true rfl (ruleOf_F P hF) w
  · by_cases hG : P.G
    · rw [show pValid P = true from decide_eq_true (Or.inr hG)]
      exact Valid_kind _ _ _ _ _ _ _ _ _ _ _ _ true rfl (ruleOf_G P hG) w
    · rw [show pValid P = false from decide_eq_false (fun h => h.elim hF hG)]
      exact Valid_kind _ _ _ _ _ 0 0 0 0 0 0 _ false rfl (ruleOf_none P hF hG) w
theorem fits_call (P : Pol) (v : Lev) (w : World) : Calls Try.prog 19 #[PP P, LL v] w fun e w' => e = .returned (.bool (pFits P v)) ∧ Up w w' := by
  by_cases hF : P.F
  · have e : pFits P v = decide (v.t = v.t ∧ v.i = 0 ∧ v.c = 0) := by
      unfold pFits pForm
      rw [if_pos hF, decide_eq_decide]
      obtain ⟨t, i, c⟩ := v
      simp [hF]
    rw [e]
    exact Fits_kind _ _ _ _ _ _ _ _ _ _ _ _ _ _ v.t 0 0 (ruleOf_F P hF) (fun _ _ => by simp [go_sem]) (fun w => flowForm_any v.t v.i v.c w) w
  · by_cases hG : P.G
    · have e : pFits P v = decide (v.t = 0 ∧ v.i = v.i ∧ v.c = v.c) := by
        unfold pFits pForm
        rw [if_neg hF, if_pos hG, decide_eq_decide]
        obtain ⟨t, i, c⟩ := v
        simp [hG]
      rw [e]
      exact Fits_kind _ _ _ _ _ _ _ _ _ _ _ _ _ _ 0 v.i v.c (ruleOf_G P hG) (fun _ _ => by simp [go_sem]) (fun w => gridForm_any v.t v.i v.c w) w
    · rw [show pFits P v = false from decide_eq_false (fun h => h.1.elim hF hG)]
      exact Fits_none _ _ _ _ _ _ _ _ (ruleOf_none P hF hG) w
theorem admit_call (P : Pol) (v : Lev) (now n : Nat) (hP : P.Ok) (hv : v.Ok) (hw : N64 now) (hn : N64 n) (w : World) :
    Calls Try.prog 10 #[PP P, LL v, V now, V n] w fun e w' => e = .returned (.tuple #[LL (pNew P v now n), .bool (pOk P v now n), V (pRetry P v now n)]) ∧ Up w w' := by
  unfold pRetry
  by_cases hF : P.F
  · have e1 : pNew P v now n = ⟨gTat P.g P.s v.t now n, 0, 0⟩ := if_pos hF
    have e2 : pOk P v now n = decide (GFits P.g P.s v.t now n) := if_pos hF
    have e3 : pRule P v now n = gRetry P.g P.s v.t now n := if_pos hF
    rw [e1, e2, e3]
    exact Admit_kind _ _ _ _ _ _ _ _ _ _ _ _ _ _ _ _ _ 0 0 _ _ (ruleOf_F P hF) (fun _ _ => by simp [go_sem]) (fun _ _ => by simp [go_sem])
      (fun w => flowAdmit_any P.k P.g P.s P.l P.p v.t v.i v.c now n hP.g hP.s hv.t hw hn w) (fun w => flowRetry_any P.k P.g P.s P.l P.p v.t v.i v.c now n hP.g hP.s hv.t hw hn w) w
  · by_cases hG : P.G
    · have e1 : pNew P v now n = ⟨0, wIx P.l P.p v.i v.c now n, wCt P.l P.p v.i v.c now n⟩ := by unfold pNew; rw [if_neg hF, if_pos hG]
      have e2 : pOk P v now n = decide (WFits P.l P.p v.i v.c now n) := by unfold pOk; rw [if_neg hF, if_pos hG]
      have e3 : pRule P v now n = wRetry P.l P.p v.i v.c now n := by unfold pRule; rw [if_neg hF, if_pos hG]
      rw [e1, e2, e3]
      exact Admit_kind _ _ _ _ _ _ _ _ _ _ _ _ _ _ _ _ 0 _ _ _ _ (ruleOf_G P hG) (fun _ _ => by simp [go_sem]) (fun _ _ => by simp [go_sem])
        (fun w => gridAdmit_any P.k P.g P.s P.l P.p v.t v.i v.c now n hP.l hw hn w) (fun w => gridRetry_any P.k P.g P.s P.l P.p v.t v.i v.c now n hP.l hP.p hv.i hw w) w
    · have e1 : pNew P v now n = Lev0 := by unfold pNew; rw [if_neg hF, if_neg hG]
      have e2 : pOk P v now n = false := by unfold pOk; rw [if_neg hF, if_neg hG]
      have e3 : pRule P v now n = 18446744073709551615 := by unfold pRule; rw [if_neg hF, if_neg hG]
      rw [e1, e2, e3]
      exact Admit_none _ _ _ _ _ _ _ _ _ _ (ruleOf_none P hF hG) w
theorem left_call (P : Pol) (v : Lev) (now : Nat) (hP : P.Ok) (hv : v.Ok) (hw : N64 now) (w : World) :
    Calls Try.prog 11 #[PP P, LL v, V now] w fun e w' => e = .returned (V (pLeft P v now)) ∧ Up w w' := by
  by_cases hF : P.F
  · rw [show pLeft P v now = _ from if_pos hF]
    exact Left_kind _ _ _ _ _ _ _ _ _ _ _ _ _ _ _ _ (ruleOf_F P hF) (fun _ _ => by simp [go_sem]) (fun w => flowLeft_any P.k P.g P.s P.l P.p v.t v.i v.c now hP.g hP.s hv.t hw w) w
  · by_cases hG : P.G
    · rw [show pLeft P v now = wLeft P.l P.p v.i v.c now by unfold pLeft; rw [if_neg hF, if_pos hG]]
      exact Left_kind _ _ _ _ _ _ _ _ _ _ _ _ _ _ _ _ (ruleOf_G P hG) (fun _ _ => by simp [go_sem]) (fun w => gridLeft_any P.k P.g P.s P.l P.p v.t v.i v.c now hP.l hw w) w
    · rw [show pLeft P v now = 0 by unfold pLeft; rw [if_neg hF, if_neg hG]]
      exact Left_none _ _ _ _ _ _ _ _ _ (ruleOf_none P hF hG) w
theorem covers_call (P : Pol) (c v : Lev) (w : World) : Calls Try.prog 21 #[PP P, LL c, LL v] w fun e w' => e = .returned (.bool (pCov P c v)) ∧ Up w w' := by
  by_cases hF : P.F
  · rw [show pCov P c v = _ from if_pos hF]
    exact Covers_kind _ _ _ _ _ _ _ _ _ _ _ _ _ _ _ _ _ _ (ruleOf_F P hF) (fun _ _ => by simp [go_sem]) (fun w => flowCovers_any c.t c.i c.c v.t v.i v.c w) w
  · by_cases hG : P.G
    · rw [show pCov P c v = gCov c v by unfold pCov; rw [if_neg hF, if_pos hG]]
      exact Covers_kind _ _ _ _ _ _ _ _ _ _ _ _ _ _ _ _ _ _ (ruleOf_G P hG) (fun _ _ => by simp [go_sem]) (fun w => gridCovers_any c.t c.i c.c v.t v.i v.c w) w
    · rw [show pCov P c v = false by unfold pCov; rw [if_neg hF, if_neg hG]]
      exact Covers_none _ _ _ _ _ _ _ _ _ _ _ (ruleOf_none P hF hG) w
theorem max_call (P : Pol) (a b : Lev) (w : World) : Calls Try.prog 20 #[PP P, LL a, LL b] w fun e w' => e = .returned (LL (pMax P a b)) ∧ Up w w' := by
  by_cases hF : P.F
  · have e1 : pCov P a b = decide (b.t ≤ a.t) := if_pos hF
    have e2 : LL (pMax P a b) = if decide (b.t ≤ a.t) = true then Lv a.t 0 0 else Lv b.t 0 0 := by
      unfold pMax
      rw [e1]
      split
      · rw [show pForm P a = _ from if_pos hF]
      · rw [show pForm P b = _ from if_pos hF]
    rw [e2]
    exact Max_kind _ _ _ _ _ _ _ _ _ _ _ _ _ _ _ _ _ a.t 0 0 b.t 0 0 _ (ruleOf_F P hF) (fun _ _ => by simp [go_sem]) (fun _ _ => by simp [go_sem]) (fun w => flowCovers_any a.t a.i a.c b.t b.i b.c w) (fun w => flowForm_any a.t a.i a.c w) (fun w => flowForm_any b.t b.i b.c w) w
  · by_cases hG : P.G
    · have e1 : pCov P a b = gCov a b := by unfold pCov; rw [if_neg hF, if_pos hG]
      have e2 : LL (pMax P a b) = if gCov a b = true then Lv 0 a.i a.c else Lv 0 b.i b.c := by
        unfold pMax
        rw [e1]
        split
        · rw [show pForm P a = ⟨0, a.i, a.c⟩ by unfold pForm; rw [if_neg hF, if_pos hG]]
        · rw [show pForm P b = ⟨0, b.i, b.c⟩ by unfold pForm; rw [if_neg hF, if_pos hG]]
      rw [e2]
      exact Max_kind _ _ _ _ _ _ _ _ _ _ _ _ _ _ _ _ _ 0 a.i a.c 0 b.i b.c _ (ruleOf_G P hG) (fun _ _ => by simp [go_sem]) (fun _ _ => by simp [go_sem]) (fun w => gridCovers_any a.t a.i a.c b.t b.i b.c w) (fun w => gridForm_any a.t a.i a.c w) (fun w => gridForm_any b.t b.i b.c w) w
    · have e : pMax P a b = Lev0 := by unfold pMax pForm; rw [if_neg hF, if_neg hG, if_neg hF, if_neg hG]; split <;> rfl
      rw [e]
      exact Max_none _ _ _ _ _ _ _ _ _ _ _ (ruleOf_none P hF hG) w
end Go.Proofs.Ythpcjhihifhmgaa
