/- policy: the functions of both rules, and the table of rules. -/
import Derived.Test.YtdddfapelencoaaDoorGcCalls
import Derived.Test.YtdddfapelencoaaDoorWnCalls
import Derived.Test.YtdddfapelencoaaDoorPlNum
import Derived.Deep.RegionHeld3
import Derived.BigQuiet
import Derived.Deep.QuietTactic
import Derived.Deep.DeepCutAuto
import Derived.Laws.EntriesVeiled
set_option linter.unusedVariables false
namespace Go.Proofs.YtdddfapelencoaaDoor
open Go Go.RowKit

/-- A policy, a level as values. -/
abbrev Pv (k : Int) (g s l p : Nat) : Value := .agg #[.int .i64 k, V g, V s, V l, V p]
abbrev Lv (t i c : Nat) : Value := .agg #[V t, V i, V c]
abbrev Z : Value := .int .u64 0

/-- Two levels held against each other. -/
theorem level_eq (a b c x y z : Nat) (w : World) : (binOp .eql 37 (.agg #[V a, V b, V c]) (.agg #[V x, V y, V z])).run Tryd.prog w = .ok (.bool (decide (a = x ∧ b = y ∧ c = z))) w := by
  by_cases h1 : a = x <;> by_cases h2 : b = y <;> by_cases h3 : c = z <;> simp [go_sem, h1, h2, h3] <;> omega
theorem level_neq (a b c x y z : Nat) (w : World) : (binOp .neq 37 (.agg #[V a, V b, V c]) (.agg #[V x, V y, V z])).run Tryd.prog w = .ok (.bool (decide (¬ (a = x ∧ b = y ∧ c = z)))) w := by
  by_cases h1 : a = x <;> by_cases h2 : b = y <;> by_cases h3 : c = z <;> simp [go_sem, h1, h2, h3] <;> omega

theorem flowForm_any (t i c : Nat) (w : World) : Calls Tryd.prog 50 #[Lv t i c] w fun e w' => e = .returned (.agg #[V t, Z, Z]) ∧ Up w w' := by
  go_enter Tryd.func50, Tryd.ntmps50
  go_wp2
  exact bodyPost_ret (v := .agg #[V t, Z, Z]) (by simp [results, Tryd.results50, go_sem]) rfl ⟨rfl, up2 _ _ _⟩
theorem gridForm_any (t i c : Nat) (w : World) : Calls Tryd.prog 56 #[Lv t i c] w fun e w' => e = .returned (.agg #[Z, V i, V c]) ∧ Up w w' := by
  go_enter Tryd.func56, Tryd.ntmps56
  go_wp2
  exact bodyPost_ret (v := .agg #[Z, V i, V c]) (by simp [results, Tryd.results56, go_sem]) rfl ⟨rfl, up2 _ _ _⟩
theorem flowCovers_any (t i c t' i' c' : Nat) (w : World) : Calls Tryd.prog 54 #[Lv t i c, Lv t' i' c'] w fun e w' => e = .returned (.bool (decide (t' ≤ t))) ∧ Up w w' := by
  go_enter Tryd.func54, Tryd.ntmps54
  go_wp2
  go_ret
  exact ⟨rfl, up2 _ _ _⟩

/-- Both rules as values: structs of functions. -/
abbrev fnV (k : Nat) : Value := .func (.func k) #[] #[]
abbrev RuleF : Value := .agg #[fnV 49, fnV 50, fnV 51, fnV 52, fnV 53, fnV 54]
abbrev RuleG : Value := .agg #[fnV 55, fnV 56, fnV 57, fnV 58, fnV 59, fnV 60]
abbrev Rule0 : Value := .agg #[.nilFunc, .nilFunc, .nilFunc, .nilFunc, .nilFunc, .nilFunc]
abbrev Rules : Value := .agg #[.nilFunc, .nilFunc, .nilFunc, .nilFunc, .nilFunc, .nilFunc,
  fnV 49, fnV 50, fnV 51, fnV 52, fnV 53, fnV 54,
  fnV 55, fnV 56, fnV 57, fnV 58, fnV 59, fnV 60]

theorem Tryd.infoRules : (Tryd.prog.info? 86).map (·.size) = some 18 := by kernel_rfl

theorem rules_any (w : World) : Calls Tryd.prog 43 #[] w fun e w' => e = .returned Rules ∧ Up w w' := by
  go_enter Tryd.func43, Tryd.ntmps43
  go_wp2_with (refine wpList_store_row rfl 86 (.tmp 0) (.tmp 3) rfl w.heap.size _ rfl rfl 86 _ (heap_alloc_new _ _) Tryd.infoRules rfl rfl ?_)
  refine bodyPost_ret (results_cell_row (fn := Tryd.f43) rfl _ _ w.heap.size 86 _ (0, 0) _ rfl (heap_alloc_new _ _) Tryd.underlying86 rfl Tryd.infoRules) rfl ?_
  exact ⟨rfl, Up.alloc _ _⟩

theorem flowValid_any (k : Int) (g s l p : Nat) (w : World) : Calls Tryd.prog 49 #[Pv k g s l p] w fun e w' => e = .returned (.bool (decide (1 ≤ g ∧ l = 0 ∧ p = 0))) ∧ Up w w' := by
  obtain ⟨o, ho⟩ : ∃ o, decide (1 ≤ g ∧ l = 0 ∧ p = 0) = o := ⟨_, rfl⟩
  rw [ho]
  replace ho : Hid (decide (1 ≤ g ∧ l = 0 ∧ p = 0) = o) := ho
  go_enter Tryd.func49, Tryd.ntmps49
  go_wp2
  all_goals
    go_ret
    refine ⟨?_, Up.alloc _ _⟩
    refine congrArg (fun b => Ending.returned (Value.bool b)) (?_ : _ = _)
    rw [← ho.out, Bool.eq_iff_iff]
    simp
    omega
theorem gridValid_any (k : Int) (g s l p : Nat) (w : World) : Calls Tryd.prog 55 #[Pv k g s l p] w fun e w' => e = .returned (.bool (decide (1 ≤ p ∧ g = 0 ∧ s = 0))) ∧ Up w w' := by
  obtain ⟨o, ho⟩ : ∃ o, decide (1 ≤ p ∧ g = 0 ∧ s = 0) = o := ⟨_, rfl⟩
  rw [ho]
  replace ho : Hid (decide (1 ≤ p ∧ g = 0 ∧ s = 0) = o) := ho
  go_enter Tryd.func55, Tryd.ntmps55
  go_wp2
  all_goals
    go_ret
    refine ⟨?_, Up.alloc _ _⟩
    refine congrArg (fun b => Ending.returned (Value.bool b)) (?_ : _ = _)
    rw [← ho.out, Bool.eq_iff_iff]
    simp
    omega
theorem gridCovers_any (t i c t' i' c' : Nat) (w : World) : Calls Tryd.prog 60 #[Lv t i c, Lv t' i' c'] w fun e w' => e = .returned (.bool (gCov ⟨t, i, c⟩ ⟨t', i', c'⟩)) ∧ Up w w' := by
  obtain ⟨o, ho⟩ : ∃ o, gCov ⟨t, i, c⟩ ⟨t', i', c'⟩ = o := ⟨_, rfl⟩
  rw [ho]
  replace ho : Hid (gCov ⟨t, i, c⟩ ⟨t', i', c'⟩ = o) := ho
  go_enter Tryd.func60, Tryd.ntmps60
  go_wp2
  all_goals
    go_ret
    refine ⟨?_, up2 _ _ _⟩
    refine congrArg (fun b => Ending.returned (Value.bool b)) (?_ : _ = _)
    rw [← ho.out, Bool.eq_iff_iff]
    simp [gCov]
    omega
end Go.Proofs.YtdddfapelencoaaDoor
