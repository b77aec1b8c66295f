/- record: a record as a value; policies, levels, records held against each other; whether a record is one. -/
import Derived.Test.YtffldmeocmemeaaDoorRcNum
import Derived.Test.YtffldmeocmemeaaDoorPlVal

set_option linter.unusedVariables false
set_option linter.unusedSimpArgs false
namespace Go.Proofs.YtffldmeocmemeaaDoor
open Go Go.RowKit

abbrev RcV (k : Int) (f : Nat) (S : ByteArray) (pk : Int) (g s l p t i c : Nat) : Value := .agg #[.int .i64 k, V f, .string S, .int .i64 pk, V g, V s, V l, V p, V t, V i, V c]
/-- A record as a value. -/
abbrev RV (r : RecV) : Value := RcV r.kind r.floor ⟨r.key.toArray⟩ r.pk r.gap r.slack r.limit r.span r.tat r.idx r.cnt

theorem policy_zero (k : Int) (g s l p : Nat) (u : World) : (binOp .eql 35 (.agg #[.int .i64 k, V g, V s, V l, V p]) (.agg #[.int .i64 0, Z, Z, Z, Z])).run Tryd.prog u = .ok (.bool (decide (k = 0 ∧ g = 0 ∧ s = 0 ∧ l = 0 ∧ p = 0))) u := by
  by_cases h0 : k = 0 <;> by_cases h1 : g = 0 <;> by_cases h2 : s = 0 <;> by_cases h3 : l = 0 <;> by_cases h4 : p = 0 <;> simp [go_sem, h0, h1, h2, h3, h4] <;> omega
theorem level_zero (a b c : Nat) (u : World) : (binOp .eql 37 (.agg #[V a, V b, V c]) (.agg #[Z, Z, Z])).run Tryd.prog u = .ok (.bool (decide (a = 0 ∧ b = 0 ∧ c = 0))) u := by
  by_cases h1 : a = 0 <;> by_cases h2 : b = 0 <;> by_cases h3 : c = 0 <;> simp [go_sem, h1, h2, h3] <;> omega

set_option maxHeartbeats 800000 in
theorem ofOneRule_any (t i c : Nat) (w : World) : Calls Tryd.prog 74 #[Lv t i c] w fun e w' => e = .returned (.bool (decide (t = 0 ∨ i = 0 ∧ c = 0))) ∧ Up w w' := by
  obtain ⟨o, ho⟩ : ∃ o, decide (t = 0 ∨ i = 0 ∧ c = 0) = o := ⟨_, rfl⟩
  rw [ho]
  replace ho : Hid (decide (t = 0 ∨ i = 0 ∧ c = 0) = o) := ho
  by_cases h1 : t = 0
  · have hfin : o = true := by rw [← ho.out]; simp [h1]
    clear ho
    subst h1 hfin
    go_enter Tryd.func74, Tryd.ntmps74
    go_wp2
    go_ret
    exact ⟨rfl, Up.alloc _ _⟩
  · have e1 : ((t : Int) == 0) = false := by simp; omega
    by_cases h2 : i = 0
    · by_cases h3 : c = 0
      · have hfin : o = true := by rw [← ho.out]; simp [h2, h3]
        clear ho h1
        subst h2 h3 hfin
        go_enter Tryd.func74, Tryd.ntmps74
        go_wp2
        go_ret
        exact ⟨rfl, Up.alloc _ _⟩
      · have hfin : o = false := by rw [← ho.out]; simp [h1, h3]
        have e3 : ((c : Int) == 0) = false := by simp; omega
        clear ho h1 h3
        subst h2 hfin
        go_enter Tryd.func74, Tryd.ntmps74
        go_wp2
        go_ret
        exact ⟨rfl, Up.alloc _ _⟩
    · have hfin : o = false := by rw [← ho.out]; simp [h1, h2]
      have e2 : ((i : Int) == 0) = false := by simp; omega
      clear ho h1 h2
      subst hfin
      go_enter Tryd.func74, Tryd.ntmps74
      go_wp2
      go_ret
      exact ⟨rfl, Up.alloc _ _⟩
end Go.Proofs.YtffldmeocmemeaaDoor
