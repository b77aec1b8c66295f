/- Merged: StRcVal, StRcOk, StRcV. -/
import Derived.Test.YtdddfapelencoaaDoorLkB
import Derived.Test.YtdddfapelencoaaDoorLkD
set_option linter.unusedVariables false
set_option linter.unusedSimpArgs false
namespace Go.Proofs.YtdddfapelencoaaDoor
open Go Go.RowKit

abbrev RcV (k : Int) (f : Nat) (S : ByteArray) (pk : Int) (g s l p t i c : Nat) : Value := .agg #[.int .i64 k, V f, .string S, .int .i64 pk, V g, V s, V l, V p, V t, V i, V c]
/-- A record as a value. -/
abbrev RV (r : RecV) : Value := RcV r.kind r.floor ⟨r.key.toArray⟩ r.pk r.gap r.slack r.limit r.span r.tat r.idx r.cnt

theorem policy_zero (k : Int) (g s l p : Nat) (u : World) : (binOp .eql 35 (.agg #[.int .i64 k, V g, V s, V l, V p]) (.agg #[.int .i64 0, Z, Z, Z, Z])).run Tryd.prog u = .ok (.bool (decide (k = 0 ∧ g = 0 ∧ s = 0 ∧ l = 0 ∧ p = 0))) u := by
  by_cases h0 : k = 0 <;> by_cases h1 : g = 0 <;> by_cases h2 : s = 0 <;> by_cases h3 : l = 0 <;> by_cases h4 : p = 0 <;> simp [go_sem, h0, h1, h2, h3, h4] <;> omega
theorem level_zero (a b c : Nat) (u : World) : (binOp .eql 37 (.agg #[V a, V b, V c]) (.agg #[Z, Z, Z])).run Tryd.prog u = .ok (.bool (decide (a = 0 ∧ b = 0 ∧ c = 0))) u := by
  by_cases h1 : a = 0 <;> by_cases h2 : b = 0 <;> by_cases h3 : c = 0 <;> simp [go_sem, h1, h2, h3] <;> omega

set_option maxHeartbeats 800000 in
theorem ofOneRule_any (t i c : Nat) (w : World) : Calls Tryd.prog 63 #[Lv t i c] w fun e w' => e = .returned (.bool (decide (t = 0 ∨ i = 0 ∧ c = 0))) ∧ Up w w' := by
  obtain ⟨o, ho⟩ : ∃ o, decide (t = 0 ∨ i = 0 ∧ c = 0) = o := ⟨_, rfl⟩
  rw [ho]
  replace ho : Hid (decide (t = 0 ∨ i = 0 ∧ c = 0) = o) := ho
  by_cases h1 : t = 0
  · have hfin : o = true := by rw [← ho.out]; simp [h1]
    clear ho
    subst h1 hfin
    go_enter Tryd.func63, Tryd.ntmps63
    go_wp2
    go_ret
    exact ⟨rfl, Up.alloc _ _⟩
  · have e1 : ((t : Int) == 0) = false := by simp; omega
    by_cases h2 : i = 0
    · by_cases h3 : c = 0
      · have hfin : o = true := by rw [← ho.out]; simp [h2, h3]
        clear ho h1
        subst h2 h3 hfin
        go_enter Tryd.func63, Tryd.ntmps63
        go_wp2
        go_ret
        exact ⟨rfl, Up.alloc _ _⟩
      · have hfin : o = false := by rw [← ho.out]; simp [h1, h3]
        have e3 : ((c : Int) == 0) = false := by simp; omega
        clear ho h1 h3
        subst h2 hfin
        go_enter Tryd.func63, Tryd.ntmps63
        go_wp2
        go_ret
        exact ⟨rfl, Up.alloc _ _⟩
    · have hfin : o = false := by rw [← ho.out]; simp [h1, h2]
      have e2 : ((i : Int) == 0) = false := by simp; omega
      clear ho h1 h2
      subst hfin
      go_enter Tryd.func63, Tryd.ntmps63
      go_wp2
      go_ret
      exact ⟨rfl, Up.alloc _ _⟩
end Go.Proofs.YtdddfapelencoaaDoor

set_option linter.unusedVariables false
set_option linter.unusedSimpArgs false
namespace Go.Proofs.YtdddfapelencoaaDoor
open Go Go.RowKit

theorem RValid_none (k : Int) (f : Nat) (S : ByteArray) (pk : Int) (g s l p t i c : Nat) (h : ((S.size : Int) == 0) = true) (w : World) :
    Calls Tryd.prog 47 #[RcV k f S pk g s l p t i c] w fun e w' => e = .returned (.bool false) ∧ Up w w' := by
  go_enter Tryd.func47, Tryd.ntmps47
  go_wp2
  go_ret
  exact ⟨rfl, Up.alloc _ _⟩
theorem RValid_long (k : Int) (f : Nat) (S : ByteArray) (pk : Int) (g s l p t i c : Nat) (h : ((S.size : Int) == 0) = false) (h64 : (64 : Int) < (S.size : Int)) (w : World) :
    Calls Tryd.prog 47 #[RcV k f S pk g s l p t i c] w fun e w' => e = .returned (.bool false) ∧ Up w w' := by
  go_enter Tryd.func47, Tryd.ntmps47
  go_wp2
  go_ret
  exact ⟨rfl, Up.alloc _ _⟩

set_option maxHeartbeats 800000 in
theorem RValid_k1 (f : Nat) (S : ByteArray) (pk : Int) (g s l p t i c : Nat) (oP oL oV : Bool) (h : ((S.size : Int) == 0) = false) (h64 : ¬ (64 : Int) < (S.size : Int))
    (hP : ∀ u, (binOp .eql 35 (.agg #[.int .i64 pk, V g, V s, V l, V p]) (.agg #[.int .i64 0, Z, Z, Z, Z])).run Tryd.prog u = .ok (.bool oP) u)
    (hL : ∀ u, (binOp .eql 37 (.agg #[V t, V i, V c]) (.agg #[Z, Z, Z])).run Tryd.prog u = .ok (.bool oL) u)
    (hV : ∀ w, Calls Tryd.prog 62 #[Pv pk g s l p] w fun e w' => e = .returned (.bool oV) ∧ Up w w') (w : World) :
    Calls Tryd.prog 47 #[RcV 1 f S pk g s l p t i c] w fun e w' => e = .returned (.bool (oV && oL)) ∧ Up w w' := by
  cases oV
  all_goals
    go_enter Tryd.func47, Tryd.ntmps47
    go_wp2
    go_quiet (fail)
    go_wp2_with fail
    refine (hV _).mono ?_
    rintro e w1 ⟨rfl, u1⟩
    go_wp2
    go_ret
    exact ⟨rfl, (Up.alloc _ _).trans ((up_drewN _ _).trans u1)⟩
set_option maxHeartbeats 800000 in
theorem RValid_k2 (f : Nat) (S : ByteArray) (pk : Int) (g s l p t i c : Nat) (oP oL : Bool) (h : ((S.size : Int) == 0) = false) (h64 : ¬ (64 : Int) < (S.size : Int))
    (hP : ∀ u, (binOp .eql 35 (.agg #[.int .i64 pk, V g, V s, V l, V p]) (.agg #[.int .i64 0, Z, Z, Z, Z])).run Tryd.prog u = .ok (.bool oP) u)
    (hL : ∀ u, (binOp .eql 37 (.agg #[V t, V i, V c]) (.agg #[Z, Z, Z])).run Tryd.prog u = .ok (.bool oL) u) (w : World) :
    Calls Tryd.prog 47 #[RcV 2 f S pk g s l p t i c] w fun e w' => e = .returned (.bool (oP && oL)) ∧ Up w w' := by
  cases oP
  all_goals
    go_enter Tryd.func47, Tryd.ntmps47
    go_wp2
    go_quiet (fail)
    go_wp2
    go_ret
    exact ⟨rfl, (Up.alloc _ _).trans (up_drewN _ _)⟩
set_option maxHeartbeats 800000 in
theorem RValid_k3 (f : Nat) (S : ByteArray) (pk : Int) (g s l p t i c : Nat) (oP oL oR : Bool) (h : ((S.size : Int) == 0) = false) (h64 : ¬ (64 : Int) < (S.size : Int))
    (hP : ∀ u, (binOp .eql 35 (.agg #[.int .i64 pk, V g, V s, V l, V p]) (.agg #[.int .i64 0, Z, Z, Z, Z])).run Tryd.prog u = .ok (.bool oP) u)
    (hL : ∀ u, (binOp .eql 37 (.agg #[V t, V i, V c]) (.agg #[Z, Z, Z])).run Tryd.prog u = .ok (.bool oL) u)
    (hR : ∀ w, Calls Tryd.prog 63 #[Lv t i c] w fun e w' => e = .returned (.bool oR) ∧ Up w w') (w : World) :
    Calls Tryd.prog 47 #[RcV 3 f S pk g s l p t i c] w fun e w' => e = .returned (.bool (oP && oR)) ∧ Up w w' := by
  cases oP
  · go_enter Tryd.func47, Tryd.ntmps47
    go_wp2
    go_quiet (fail)
    go_wp2
    go_ret
    exact ⟨rfl, (Up.alloc _ _).trans (up_drewN _ _)⟩
  · go_enter Tryd.func47, Tryd.ntmps47
    go_wp2
    go_quiet (fail)
    go_wp2_with fail
    refine (hR _).mono ?_
    rintro e w1 ⟨rfl, u1⟩
    go_wp2
    go_ret
    exact ⟨rfl, (Up.alloc _ _).trans ((up_drewN _ _).trans u1)⟩
set_option maxHeartbeats 800000 in
theorem RValid_other (k : Int) (f : Nat) (S : ByteArray) (pk : Int) (g s l p t i c : Nat) (oP oL : Bool) (h : ((S.size : Int) == 0) = false) (h64 : ¬ (64 : Int) < (S.size : Int))
    (k1 : ¬ k = 1) (k2 : ¬ k = 2) (k3 : ¬ k = 3)
    (hP : ∀ u, (binOp .eql 35 (.agg #[.int .i64 pk, V g, V s, V l, V p]) (.agg #[.int .i64 0, Z, Z, Z, Z])).run Tryd.prog u = .ok (.bool oP) u)
    (hL : ∀ u, (binOp .eql 37 (.agg #[V t, V i, V c]) (.agg #[Z, Z, Z])).run Tryd.prog u = .ok (.bool oL) u) (w : World) :
    Calls Tryd.prog 47 #[RcV k f S pk g s l p t i c] w fun e w' => e = .returned (.bool false) ∧ Up w w' := by
  go_enter Tryd.func47, Tryd.ntmps47
  go_wp2
  go_quiet (fail)
  go_wp2
  go_ret
  exact ⟨rfl, (Up.alloc _ _).trans (up_drewN _ _)⟩

/-- A record's policy and level in the numbers of the face. -/
abbrev RecV.pol (r : RecV) : Pol := ⟨r.pk, r.gap, r.slack, r.limit, r.span⟩
theorem polOk_valid (r : RecV) : pValid r.pol = decide (polOk r) := rfl
theorem and_dec {p q : Prop} [Decidable p] [Decidable q] : (decide p && decide q) = decide (p ∧ q) := by by_cases h1 : p <;> by_cases h2 : q <;> simp [h1, h2]
theorem key_size (key : List UInt8) : (⟨key.toArray⟩ : ByteArray).size = key.length := by simp [ByteArray.size]

theorem RValid_any (r : RecV) (w : World) :
    Calls Tryd.prog 47 #[RV r] w fun e w' => e = .returned (.bool (decide (validR r))) ∧ Up w w' := by
  have hsz := key_size r.key
  have hP := policy_zero r.pk r.gap r.slack r.limit r.span
  have hL := level_zero r.tat r.idx r.cnt
  have hV := valid_call r.pol
  rw [polOk_valid] at hV
  have hR := ofOneRule_any r.tat r.idx r.cnt
  by_cases h0 : r.key.length = 0
  · rw [show decide (validR r) = false from decide_eq_false fun q => by have := q.1; omega]
    exact RValid_none _ _ _ _ _ _ _ _ _ _ _ (by rw [hsz, h0]; rfl) w
  · have e0 : (((⟨r.key.toArray⟩ : ByteArray).size : Int) == 0) = false := by rw [hsz]; simp; intro e; exact h0 (by rw [e]; rfl)
    by_cases h64 : 64 < r.key.length
    · rw [show decide (validR r) = false from decide_eq_false fun q => by have := q.2.1; omega]
      exact RValid_long _ _ _ _ _ _ _ _ _ _ _ e0 (by rw [hsz]; omega) w
    · have e64 : ¬ (64 : Int) < ((⟨r.key.toArray⟩ : ByteArray).size : Int) := by rw [hsz]; omega
      by_cases k1 : r.kind = 1
      · rw [show decide (validR r) = (decide (polOk r) && decide (lvlNo r)) by
          rw [and_dec]
          refine decide_eq_decide.2 ⟨fun q => ?_, fun q => ⟨by omega, by omega, .inl ⟨k1, q.1, q.2⟩⟩⟩
          rcases q.2.2 with h | h | h
          · exact h.2
          · have := h.1; omega
          · have := h.1; omega]
        have := RValid_k1 r.floor ⟨r.key.toArray⟩ r.pk r.gap r.slack r.limit r.span r.tat r.idx r.cnt _ _ _ e0 e64 hP hL hV w
        rw [← k1] at this
        exact this
      · by_cases k2 : r.kind = 2
        · rw [show decide (validR r) = (decide (polNo r) && decide (lvlNo r)) by
            rw [and_dec]
            refine decide_eq_decide.2 ⟨fun q => ?_, fun q => ⟨by omega, by omega, .inr (.inl ⟨k2, q.1, q.2⟩)⟩⟩
            rcases q.2.2 with h | h | h
            · have := h.1; omega
            · exact h.2
            · have := h.1; omega]
          have := RValid_k2 r.floor ⟨r.key.toArray⟩ r.pk r.gap r.slack r.limit r.span r.tat r.idx r.cnt _ _ e0 e64 hP hL w
          rw [← k2] at this
          exact this
        · by_cases k3 : r.kind = 3
          · rw [show decide (validR r) = (decide (polNo r) && decide (r.tat = 0 ∨ r.idx = 0 ∧ r.cnt = 0)) by
              rw [and_dec]
              refine decide_eq_decide.2 ⟨fun q => ?_, fun q => ⟨by omega, by omega, .inr (.inr ⟨k3, q.1, q.2⟩)⟩⟩
              rcases q.2.2 with h | h | h
              · have := h.1; omega
              · have := h.1; omega
              · exact h.2]
            have := RValid_k3 r.floor ⟨r.key.toArray⟩ r.pk r.gap r.slack r.limit r.span r.tat r.idx r.cnt _ _ _ e0 e64 hP hL hR w
            rw [← k3] at this
            exact this
          · rw [show decide (validR r) = false from decide_eq_false fun q => by
              rcases q.2.2 with h | h | h
              · exact k1 h.1
              · exact k2 h.1
              · exact k3 h.1]
            exact RValid_other r.kind r.floor ⟨r.key.toArray⟩ r.pk r.gap r.slack r.limit r.span r.tat r.idx r.cnt _ _ e0 e64 k1 k2 k3 hP hL w
end Go.Proofs.YtdddfapelencoaaDoor

set_option linter.unusedVariables false
set_option linter.unusedSimpArgs false
namespace Go.Proofs.YtdddfapelencoaaDoor
open Go Go.RowKit

theorem Box.c11 {w : World} {k : Nat} {a0 a1 a2 a3 a4 a5 a6 a7 a8 a9 a10 : Value} (h : Box w k #[a0, a1, a2, a3, a4, a5, a6, a7, a8, a9, a10]) : w.cell? ⟨k, 0, none⟩ = some a0 ∧ w.cell? ⟨k, 1, none⟩ = some a1 ∧ w.cell? ⟨k, 2, none⟩ = some a2 ∧ w.cell? ⟨k, 3, none⟩ = some a3 ∧ w.cell? ⟨k, 4, none⟩ = some a4 ∧ w.cell? ⟨k, 5, none⟩ = some a5 ∧ w.cell? ⟨k, 6, none⟩ = some a6 ∧ w.cell? ⟨k, 7, none⟩ = some a7 ∧ w.cell? ⟨k, 8, none⟩ = some a8 ∧ w.cell? ⟨k, 9, none⟩ = some a9 ∧ w.cell? ⟨k, 10, none⟩ = some a10 :=
  ⟨h.cell 0, h.cell 1, h.cell 2, h.cell 3, h.cell 4, h.cell 5, h.cell 6, h.cell 7, h.cell 8, h.cell 9, h.cell 10⟩

theorem qvalid_iff {k : Int} {g s l p : Nat} : pValid ⟨k, g, s, l, p⟩ = true ↔ (k = 1 ∧ 1 ≤ g ∧ l = 0 ∧ p = 0) ∨ (k = 2 ∧ 1 ≤ p ∧ g = 0 ∧ s = 0) := decide_eq_true_iff
theorem qvalid6_any (k : Int) (g s l p : Nat) (w : World) : Calls Tryd.prog 34 #[Pv k g s l p] w fun e w' => e = .returned (.bool (pValid ⟨k, g, s, l, p⟩)) ∧ Up w w' := by
  obtain ⟨o, ho⟩ : ∃ o, pValid ⟨k, g, s, l, p⟩ = o := ⟨_, rfl⟩
  rw [ho]
  replace ho : Hid (pValid ⟨k, g, s, l, p⟩ = o) := ho
  go_enter Tryd.func34, Tryd.ntmps34
  go_wp2
  all_goals
    go_ret
    refine ⟨?_, Up.alloc _ _⟩
    refine congrArg (fun b => Ending.returned (Value.bool b)) (?_ : _ = _)
    rw [← ho.out, Bool.eq_iff_iff, qvalid_iff]
    clear ho
    simp at *
    try omega

theorem qValid_none (k : Int) (f : Nat) (S : ByteArray) (pk : Int) (g s l p t i c : Nat) (h : (S.size : Int) < 1) (w : World) :
    Calls Tryd.prog 38 #[RcV k f S pk g s l p t i c] w fun e w' => e = .returned (.bool false) ∧ Up w w' := by
  go_enter Tryd.func38, Tryd.ntmps38
  go_wp2
  go_ret
  exact ⟨rfl, Up.alloc _ _⟩
theorem qValid_long (k : Int) (f : Nat) (S : ByteArray) (pk : Int) (g s l p t i c : Nat) (h1 : ¬ (S.size : Int) < 1) (h : (64 : Int) < (S.size : Int)) (w : World) :
    Calls Tryd.prog 38 #[RcV k f S pk g s l p t i c] w fun e w' => e = .returned (.bool false) ∧ Up w w' := by
  go_enter Tryd.func38, Tryd.ntmps38
  go_wp2
  go_ret
  exact ⟨rfl, Up.alloc _ _⟩
theorem qValid_other (k : Int) (f : Nat) (S : ByteArray) (pk : Int) (g s l p t i c : Nat) (h1 : ¬ (S.size : Int) < 1) (h64 : ¬ (64 : Int) < (S.size : Int)) (k1 : ¬ k = 1) (k2 : ¬ k = 2) (k3 : ¬ k = 3) (w : World) :
    Calls Tryd.prog 38 #[RcV k f S pk g s l p t i c] w fun e w' => e = .returned (.bool false) ∧ Up w w' := by
  go_enter Tryd.func38, Tryd.ntmps38
  go_wp2
  go_ret
  exact ⟨rfl, Up.alloc _ _⟩
set_option maxHeartbeats 800000 in
theorem qValid_k1 (f : Nat) (S : ByteArray) (pk : Int) (g s l p t i c : Nat) (oL oV : Bool) (h1 : ¬ (S.size : Int) < 1) (h64 : ¬ (64 : Int) < (S.size : Int)) (hL : ∀ u, (binOp .eql 37 (.agg #[V t, V i, V c]) (.agg #[Z, Z, Z])).run Tryd.prog u = .ok (.bool oL) u)
    (hV : ∀ w, Calls Tryd.prog 34 #[Pv pk g s l p] w fun e w' => e = .returned (.bool oV) ∧ Up w w') (w : World) :
    Calls Tryd.prog 38 #[RcV 1 f S pk g s l p t i c] w fun e w' => e = .returned (.bool (oV && oL)) ∧ Up w w' := by
  have b0 : Box (w.alloc (.cells #[.int .i64 1, V f, .string S, .int .i64 pk, V g, V s, V l, V p, V t, V i, V c] 39)) w.heap.size #[.int .i64 1, V f, .string S, .int .i64 pk, V g, V s, V l, V p, V t, V i, V c] := Box.new _ _ _
  cases oV
  all_goals
    go_enter Tryd.func38, Tryd.ntmps38
    go_wp2_with fail
    refine (hV _).mono ?_
    rintro e w1 ⟨rfl, u1⟩
    have b1 := b0.up u1
    obtain ⟨c0, c1, c2, c3, c4, c5, c6, c7, c8, c9, c10⟩ := b1.c11
    go_wp2
    go_ret
    exact ⟨rfl, (Up.alloc _ _).trans u1⟩
set_option maxHeartbeats 800000 in
theorem qValid_k2 (f : Nat) (S : ByteArray) (pk : Int) (g s l p t i c : Nat) (oP oL : Bool) (h1 : ¬ (S.size : Int) < 1) (h64 : ¬ (64 : Int) < (S.size : Int)) (hP : ∀ u, (binOp .eql 35 (.agg #[.int .i64 pk, V g, V s, V l, V p]) (.agg #[.int .i64 0, Z, Z, Z, Z])).run Tryd.prog u = .ok (.bool oP) u) (hL : ∀ u, (binOp .eql 37 (.agg #[V t, V i, V c]) (.agg #[Z, Z, Z])).run Tryd.prog u = .ok (.bool oL) u) (w : World) :
    Calls Tryd.prog 38 #[RcV 2 f S pk g s l p t i c] w fun e w' => e = .returned (.bool (oP && oL)) ∧ Up w w' := by
  cases oP
  all_goals
    go_enter Tryd.func38, Tryd.ntmps38
    go_wp2
    go_ret
    exact ⟨rfl, Up.alloc _ _⟩
set_option maxHeartbeats 1600000 in
theorem qValid_k3 (f : Nat) (S : ByteArray) (pk : Int) (g s l p t i c : Nat) (oP : Bool) (h1 : ¬ (S.size : Int) < 1) (h64 : ¬ (64 : Int) < (S.size : Int)) (hP : ∀ u, (binOp .eql 35 (.agg #[.int .i64 pk, V g, V s, V l, V p]) (.agg #[.int .i64 0, Z, Z, Z, Z])).run Tryd.prog u = .ok (.bool oP) u) (w : World) :
    Calls Tryd.prog 38 #[RcV 3 f S pk g s l p t i c] w fun e w' => e = .returned (.bool (oP && decide (t = 0 ∨ i = 0 ∧ c = 0))) ∧ Up w w' := by
  obtain ⟨o, ho⟩ : ∃ o, decide (t = 0 ∨ i = 0 ∧ c = 0) = o := ⟨_, rfl⟩
  rw [ho]
  replace ho : Hid (decide (t = 0 ∨ i = 0 ∧ c = 0) = o) := ho
  cases oP
  · clear ho
    go_enter Tryd.func38, Tryd.ntmps38
    go_wp2
    go_ret
    exact ⟨rfl, Up.alloc _ _⟩
  · rcases Bool.eq_false_or_eq_true ((t : Int) == 0) with e1 | e1
    · obtain rfl : o = true := by rw [← ho.out]; have : t = 0 := (by simpa using e1); simp [this]
      clear ho
      go_enter Tryd.func38, Tryd.ntmps38
      go_wp2
      go_ret
      exact ⟨rfl, Up.alloc _ _⟩
    · have n1 : ¬ t = 0 := by simpa using e1
      rcases Bool.eq_false_or_eq_true ((i : Int) == 0) with e2 | e2
      · have q2 : i = 0 := by simpa using e2
        rcases Bool.eq_false_or_eq_true ((c : Int) == 0) with e3 | e3
        · obtain rfl : o = true := by rw [← ho.out]; have : c = 0 := (by simpa using e3); simp [q2, this]
          clear ho n1 q2
          go_enter Tryd.func38, Tryd.ntmps38
          go_wp2
          go_ret
          exact ⟨rfl, Up.alloc _ _⟩
        · obtain rfl : o = false := by rw [← ho.out]; have : ¬ c = 0 := (by simpa using e3); simp [n1, this]
          clear ho n1 q2
          go_enter Tryd.func38, Tryd.ntmps38
          go_wp2
          go_ret
          exact ⟨rfl, Up.alloc _ _⟩
      · obtain rfl : o = false := by rw [← ho.out]; have : ¬ i = 0 := (by simpa using e2); simp [n1, this]
        clear ho n1
        go_enter Tryd.func38, Tryd.ntmps38
        go_wp2
        go_ret
        exact ⟨rfl, Up.alloc _ _⟩

theorem qValid_any (r : RecV) (w : World) :
    Calls Tryd.prog 38 #[RV r] w fun e w' => e = .returned (.bool (decide (validR r))) ∧ Up w w' := by
  have hsz := key_size r.key
  have hP := policy_zero r.pk r.gap r.slack r.limit r.span
  have hL := level_zero r.tat r.idx r.cnt
  have hV := fun w => qvalid6_any r.pk r.gap r.slack r.limit r.span w
  have hpv : pValid ⟨r.pk, r.gap, r.slack, r.limit, r.span⟩ = decide (polOk r) := rfl
  rw [hpv] at hV
  by_cases h0 : r.key.length = 0
  · rw [show decide (validR r) = false from decide_eq_false fun q => by have := q.1; omega]
    exact qValid_none _ _ _ _ _ _ _ _ _ _ _ (by rw [hsz, h0]; decide) w
  · have e1 : ¬ ((⟨r.key.toArray⟩ : ByteArray).size : Int) < 1 := by rw [hsz]; omega
    by_cases h64 : 64 < r.key.length
    · rw [show decide (validR r) = false from decide_eq_false fun q => by have := q.2.1; omega]
      exact qValid_long _ _ _ _ _ _ _ _ _ _ _ e1 (by rw [hsz]; omega) w
    · have e64 : ¬ (64 : Int) < ((⟨r.key.toArray⟩ : ByteArray).size : Int) := by rw [hsz]; omega
      by_cases k1 : r.kind = 1
      · rw [show decide (validR r) = (decide (polOk r) && decide (lvlNo r)) by
          rw [and_dec]
          refine decide_eq_decide.2 ⟨fun q => ?_, fun q => ⟨by omega, by omega, .inl ⟨k1, q.1, q.2⟩⟩⟩
          rcases q.2.2 with h | h | h
          · exact h.2
          · have := h.1; omega
          · have := h.1; omega]
        have := qValid_k1 r.floor ⟨r.key.toArray⟩ r.pk r.gap r.slack r.limit r.span r.tat r.idx r.cnt _ _ e1 e64 hL hV w
        rw [← k1] at this
        exact this
      · by_cases k2 : r.kind = 2
        · rw [show decide (validR r) = (decide (polNo r) && decide (lvlNo r)) by
            rw [and_dec]
            refine decide_eq_decide.2 ⟨fun q => ?_, fun q => ⟨by omega, by omega, .inr (.inl ⟨k2, q.1, q.2⟩)⟩⟩
            rcases q.2.2 with h | h | h
            · have := h.1; omega
            · exact h.2
            · have := h.1; omega]
          have := qValid_k2 r.floor ⟨r.key.toArray⟩ r.pk r.gap r.slack r.limit r.span r.tat r.idx r.cnt _ _ e1 e64 hP hL w
          rw [← k2] at this
          exact this
        · by_cases k3 : r.kind = 3
          · rw [show decide (validR r) = (decide (polNo r) && decide (r.tat = 0 ∨ r.idx = 0 ∧ r.cnt = 0)) by
              rw [and_dec]
              refine decide_eq_decide.2 ⟨fun q => ?_, fun q => ⟨by omega, by omega, .inr (.inr ⟨k3, q.1, q.2⟩)⟩⟩
              rcases q.2.2 with h | h | h
              · have := h.1; omega
              · have := h.1; omega
              · exact h.2]
            have := qValid_k3 r.floor ⟨r.key.toArray⟩ r.pk r.gap r.slack r.limit r.span r.tat r.idx r.cnt _ e1 e64 hP w
            rw [← k3] at this
            exact this
          · rw [show decide (validR r) = false from decide_eq_false fun q => by
              rcases q.2.2 with h | h | h
              · exact k1 h.1
              · exact k2 h.1
              · exact k3 h.1]
            exact qValid_other r.kind r.floor ⟨r.key.toArray⟩ r.pk r.gap r.slack r.limit r.span r.tat r.idx r.cnt e1 e64 k1 k2 k3 w
end Go.Proofs.YtdddfapelencoaaDoor
