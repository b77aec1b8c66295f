/- record: what Valid answers. -/
import Derived.Test.YtffldmeocmemeaaDoorStRcVal
set_option linter.unusedVariables false
set_option linter.unusedSimpArgs false
namespace Go.Proofs.YtffldmeocmemeaaDoor
open Go Go.RowKit

theorem RValid_none (k : Int) (f : Nat) (S : ByteArray) (pk : Int) (g s l p t i c : Nat) (h : ((S.size : Int) == 0) = true) (w : World) :
    Calls Tryd.prog 58 #[RcV k f S pk g s l p t i c] w fun e w' => e = .returned (.bool false) ∧ Up w w' := by
  go_enter Tryd.func58, Tryd.ntmps58
  go_wp2
  go_ret
  exact ⟨rfl, Up.alloc _ _⟩
theorem RValid_long (k : Int) (f : Nat) (S : ByteArray) (pk : Int) (g s l p t i c : Nat) (h : ((S.size : Int) == 0) = false) (h64 : (64 : Int) < (S.size : Int)) (w : World) :
    Calls Tryd.prog 58 #[RcV k f S pk g s l p t i c] w fun e w' => e = .returned (.bool false) ∧ Up w w' := by
  go_enter Tryd.func58, Tryd.ntmps58
  go_wp2
  go_ret
  exact ⟨rfl, Up.alloc _ _⟩

set_option maxHeartbeats 800000 in
theorem RValid_k1 (f : Nat) (S : ByteArray) (pk : Int) (g s l p t i c : Nat) (oP oL oV : Bool) (h : ((S.size : Int) == 0) = false) (h64 : ¬ (64 : Int) < (S.size : Int))
    (hP : ∀ u, (binOp .eql 35 (.agg #[.int .i64 pk, V g, V s, V l, V p]) (.agg #[.int .i64 0, Z, Z, Z, Z])).run Tryd.prog u = .ok (.bool oP) u)
    (hL : ∀ u, (binOp .eql 37 (.agg #[V t, V i, V c]) (.agg #[Z, Z, Z])).run Tryd.prog u = .ok (.bool oL) u)
    (hV : ∀ w, Calls Tryd.prog 73 #[Pv pk g s l p] w fun e w' => e = .returned (.bool oV) ∧ Up w w') (w : World) :
    Calls Tryd.prog 58 #[RcV 1 f S pk g s l p t i c] w fun e w' => e = .returned (.bool (oV && oL)) ∧ Up w w' := by
  cases oV
  all_goals
    go_enter Tryd.func58, Tryd.ntmps58
    go_wp2
    go_quiet (fail)
    go_wp2_with fail
    refine (hV _).mono ?_
    rintro e w1 ⟨rfl, u1⟩
    go_wp2
    go_ret
    exact ⟨rfl, (Up.alloc _ _).trans ((up_drewN _ _).trans u1)⟩
set_option maxHeartbeats 800000 in
theorem RValid_k2 (f : Nat) (S : ByteArray) (pk : Int) (g s l p t i c : Nat) (oP oL : Bool) (h : ((S.size : Int) == 0) = false) (h64 : ¬ (64 : Int) < (S.size : Int))
    (hP : ∀ u, (binOp .eql 35 (.agg #[.int .i64 pk, V g, V s, V l, V p]) (.agg #[.int .i64 0, Z, Z, Z, Z])).run Tryd.prog u = .ok (.bool oP) u)
    (hL : ∀ u, (binOp .eql 37 (.agg #[V t, V i, V c]) (.agg #[Z, Z, Z])).run Tryd.prog u = .ok (.bool oL) u) (w : World) :
    Calls Tryd.prog 58 #[RcV 2 f S pk g s l p t i c] w fun e w' => e = .returned (.bool (oP && oL)) ∧ Up w w' := by
  cases oP
  all_goals
    go_enter Tryd.func58, Tryd.ntmps58
    go_wp2
    go_quiet (fail)
    go_wp2
    go_ret
    exact ⟨rfl, (Up.alloc _ _).trans (up_drewN _ _)⟩
set_option maxHeartbeats 800000 in
theorem RValid_k3 (f : Nat) (S : ByteArray) (pk : Int) (g s l p t i c : Nat) (oP oL oR : Bool) (h : ((S.size : Int) == 0) = false) (h64 : ¬ (64 : Int) < (S.size : Int))
    (hP : ∀ u, (binOp .eql 35 (.agg #[.int .i64 pk, V g, V s, V l, V p]) (.agg #[.int .i64 0, Z, Z, Z, Z])).run Tryd.prog u = .ok (.bool oP) u)
    (hL : ∀ u, (binOp .eql 37 (.agg #[V t, V i, V c]) (.agg #[Z, Z, Z])).run Tryd.prog u = .ok (.bool oL) u)
    (hR : ∀ w, Calls Tryd.prog 74 #[Lv t i c] w fun e w' => e = .returned (.bool oR) ∧ Up w w') (w : World) :
    Calls Tryd.prog 58 #[RcV 3 f S pk g s l p t i c] w fun e w' => e = .returned (.bool (oP && oR)) ∧ Up w w' := by
  cases oP
  · go_enter Tryd.func58, Tryd.ntmps58
    go_wp2
    go_quiet (fail)
    go_wp2
    go_ret
    exact ⟨rfl, (Up.alloc _ _).trans (up_drewN _ _)⟩
  · go_enter Tryd.func58, Tryd.ntmps58
    go_wp2
    go_quiet (fail)
    go_wp2_with fail
    refine (hR _).mono ?_
    rintro e w1 ⟨rfl, u1⟩
    go_wp2
    go_ret
    exact ⟨rfl, (Up.alloc _ _).trans ((up_drewN _ _).trans u1)⟩
set_option maxHeartbeats 800000 in
theorem RValid_other (k : Int) (f : Nat) (S : ByteArray) (pk : Int) (g s l p t i c : Nat) (oP oL : Bool) (h : ((S.size : Int) == 0) = false) (h64 : ¬ (64 : Int) < (S.size : Int))
    (k1 : ¬ k = 1) (k2 : ¬ k = 2) (k3 : ¬ k = 3)
    (hP : ∀ u, (binOp .eql 35 (.agg #[.int .i64 pk, V g, V s, V l, V p]) (.agg #[.int .i64 0, Z, Z, Z, Z])).run Tryd.prog u = .ok (.bool oP) u)
    (hL : ∀ u, (binOp .eql 37 (.agg #[V t, V i, V c]) (.agg #[Z, Z, Z])).run Tryd.prog u = .ok (.bool oL) u) (w : World) :
    Calls Tryd.prog 58 #[RcV k f S pk g s l p t i c] w fun e w' => e = .returned (.bool false) ∧ Up w w' := by
  go_enter Tryd.func58, Tryd.ntmps58
  go_wp2
  go_quiet (fail)
  go_wp2
  go_ret
  exact ⟨rfl, (Up.alloc _ _).trans (up_drewN _ _)⟩

/-- A record's policy and level in the numbers of the face. -/
abbrev RecV.pol (r : RecV) : Pol := ⟨r.pk, r.gap, r.slack, r.limit, r.span⟩
theorem polOk_valid (r : RecV) : pValid r.pol = decide (polOk r) := rfl
theorem and_dec {p q : Prop} [Decidable p] [Decidable q] : (decide p && decide q) = decide (p ∧ q) := by by_cases h1 : p <;> by_cases h2 : q <;> simp [h1, h2]
theorem key_size (key : List UInt8) : (⟨key.toArray⟩ : ByteArray).size = key.length := by simp [ByteArray.size]

theorem RValid_any (r : RecV) (w : World) :
    Calls Tryd.prog 58 #[RV r] w fun e w' => e = .returned (.bool (decide (validR r))) ∧ Up w w' := by
  have hsz := key_size r.key
  have hP := policy_zero r.pk r.gap r.slack r.limit r.span
  have hL := level_zero r.tat r.idx r.cnt
  have hV := valid_call r.pol
  rw [polOk_valid] at hV
  have hR := ofOneRule_any r.tat r.idx r.cnt
  by_cases h0 : r.key.length = 0
  · rw [show decide (validR r) = false from decide_eq_false fun q => by have := q.1; omega]
    exact RValid_none _ _ _ _ _ _ _ _ _ _ _ (by rw [hsz, h0]; rfl) w
  · have e0 : (((⟨r.key.toArray⟩ : ByteArray).size : Int) == 0) = false := by rw [hsz]; simp; intro e; exact h0 (by rw [e]; rfl)
    by_cases h64 : 64 < r.key.length
    · rw [show decide (validR r) = false from decide_eq_false fun q => by have := q.2.1; omega]
      exact RValid_long _ _ _ _ _ _ _ _ _ _ _ e0 (by rw [hsz]; omega) w
    · have e64 : ¬ (64 : Int) < ((⟨r.key.toArray⟩ : ByteArray).size : Int) := by rw [hsz]; omega
      by_cases k1 : r.kind = 1
      · rw [show decide (validR r) = (decide (polOk r) && decide (lvlNo r)) by
          rw [and_dec]
          refine decide_eq_decide.2 ⟨fun q => ?_, fun q => ⟨by omega, by omega, .inl ⟨k1, q.1, q.2⟩⟩⟩
          rcases q.2.2 with h | h | h
          · exact h.2
          · have := h.1; omega
          · have := h.1; omega]
        have := RValid_k1 r.floor ⟨r.key.toArray⟩ r.pk r.gap r.slack r.limit r.span r.tat r.idx r.cnt _ _ _ e0 e64 hP hL hV w
        rw [← k1] at this
        exact this
      · by_cases k2 : r.kind = 2
        · rw [show decide (validR r) = (decide (polNo r) && decide (lvlNo r)) by
            rw [and_dec]
            refine decide_eq_decide.2 ⟨fun q => ?_, fun q => ⟨by omega, by omega, .inr (.inl ⟨k2, q.1, q.2⟩)⟩⟩
            rcases q.2.2 with h | h | h
            · have := h.1; omega
            · exact h.2
            · have := h.1; omega]
          have := RValid_k2 r.floor ⟨r.key.toArray⟩ r.pk r.gap r.slack r.limit r.span r.tat r.idx r.cnt _ _ e0 e64 hP hL w
          rw [← k2] at this
          exact this
        · by_cases k3 : r.kind = 3
          · rw [show decide (validR r) = (decide (polNo r) && decide (r.tat = 0 ∨ r.idx = 0 ∧ r.cnt = 0)) by
              rw [and_dec]
              refine decide_eq_decide.2 ⟨fun q => ?_, fun q => ⟨by omega, by omega, .inr (.inr ⟨k3, q.1, q.2⟩)⟩⟩
              rcases q.2.2 with h | h | h
              · have := h.1; omega
              · have := h.1; omega
              · exact h.2]
            have := RValid_k3 r.floor ⟨r.key.toArray⟩ r.pk r.gap r.slack r.limit r.span r.tat r.idx r.cnt _ _ _ e0 e64 hP hL hR w
            rw [← k3] at this
            exact this
          · rw [show decide (validR r) = false from decide_eq_false fun q => by
              rcases q.2.2 with h | h | h
              · exact k1 h.1
              · exact k2 h.1
              · exact k3 h.1]
            exact RValid_other r.kind r.floor ⟨r.key.toArray⟩ r.pk r.gap r.slack r.limit r.span r.tat r.idx r.cnt _ _ e0 e64 k1 k2 k3 hP hL w
end Go.Proofs.YtffldmeocmemeaaDoor
