/- Merged: RcRefV. -/
import Derived.Test.YtcllenlpoknakaaDoorMr31
set_option linter.unusedVariables false
set_option linter.unusedSimpArgs false
namespace Go.Proofs.YtcllenlpoknakaaDoor
open Go Go.RowKit

theorem qvalid_iff {k : Int} {g s l p : Nat} : pValid ⟨k, g, s, l, p⟩ = true ↔ (k = 1 ∧ 1 ≤ g ∧ l = 0 ∧ p = 0) ∨ (k = 2 ∧ 1 ≤ p ∧ g = 0 ∧ s = 0) := decide_eq_true_iff
theorem qvalid6_any (k : Int) (g s l p : Nat) (w : World) : Calls Tryd.prog 36 #[Pv k g s l p] w fun e w' => e = .returned (.bool (pValid ⟨k, g, s, l, p⟩)) ∧ Up w w' := by
  obtain ⟨o, ho⟩ : ∃ o, pValid ⟨k, g, s, l, p⟩ = o := ⟨_, rfl⟩
  rw [ho]
  replace ho : Hid (pValid ⟨k, g, s, l, p⟩ = o) := ho
  go_enter Tryd.func36, Tryd.ntmps36
  go_wp2
  all_goals
    go_ret
    refine ⟨?_, Up.alloc _ _⟩
    refine congrArg (fun b => Ending.returned (Value.bool b)) (?_ : _ = _)
    rw [← ho.out, Bool.eq_iff_iff, qvalid_iff]
    clear ho
    simp at *
    try omega

theorem qValid_none (k : Int) (f : Nat) (S : ByteArray) (pk : Int) (g s l p t i c : Nat) (h : (S.size : Int) < 1) (w : World) :
    Calls Tryd.prog 17 #[RcV k f S pk g s l p t i c] w fun e w' => e = .returned (.bool false) ∧ Up w w' := by
  go_enter Tryd.func17, Tryd.ntmps17
  go_wp2
  go_ret
  exact ⟨rfl, Up.alloc _ _⟩
theorem qValid_long (k : Int) (f : Nat) (S : ByteArray) (pk : Int) (g s l p t i c : Nat) (h1 : ¬ (S.size : Int) < 1) (h : (64 : Int) < (S.size : Int)) (w : World) :
    Calls Tryd.prog 17 #[RcV k f S pk g s l p t i c] w fun e w' => e = .returned (.bool false) ∧ Up w w' := by
  go_enter Tryd.func17, Tryd.ntmps17
  go_wp2
  go_ret
  exact ⟨rfl, Up.alloc _ _⟩
theorem qValid_other (k : Int) (f : Nat) (S : ByteArray) (pk : Int) (g s l p t i c : Nat) (h1 : ¬ (S.size : Int) < 1) (h64 : ¬ (64 : Int) < (S.size : Int)) (k1 : ¬ k = 1) (k2 : ¬ k = 2) (k3 : ¬ k = 3) (w : World) :
    Calls Tryd.prog 17 #[RcV k f S pk g s l p t i c] w fun e w' => e = .returned (.bool false) ∧ Up w w' := by
  go_enter Tryd.func17, Tryd.ntmps17
  go_wp2
  go_ret
  exact ⟨rfl, Up.alloc _ _⟩
set_option maxHeartbeats 800000 in
theorem qValid_k1 (f : Nat) (S : ByteArray) (pk : Int) (g s l p t i c : Nat) (oL oV : Bool) (h1 : ¬ (S.size : Int) < 1) (h64 : ¬ (64 : Int) < (S.size : Int)) (hL : ∀ u, (binOp .eql 30 (.agg #[V t, V i, V c]) (.agg #[Z, Z, Z])).run Tryd.prog u = .ok (.bool oL) u)
    (hV : ∀ w, Calls Tryd.prog 36 #[Pv pk g s l p] w fun e w' => e = .returned (.bool oV) ∧ Up w w') (w : World) :
    Calls Tryd.prog 17 #[RcV 1 f S pk g s l p t i c] w fun e w' => e = .returned (.bool (oV && oL)) ∧ Up w w' := by
  have b0 : Box (w.alloc (.cells #[.int .i64 1, V f, .string S, .int .i64 pk, V g, V s, V l, V p, V t, V i, V c] 32)) w.heap.size #[.int .i64 1, V f, .string S, .int .i64 pk, V g, V s, V l, V p, V t, V i, V c] := Box.new _ _ _
  cases oV
  all_goals
    go_enter Tryd.func17, Tryd.ntmps17
    go_wp2_with fail
    refine (hV _).mono ?_
    rintro e w1 ⟨rfl, u1⟩
    have b1 := b0.up u1
    obtain ⟨c0, c1, c2, c3, c4, c5, c6, c7, c8, c9, c10⟩ := b1.c11
    go_wp2
    go_ret
    exact ⟨rfl, (Up.alloc _ _).trans u1⟩
set_option maxHeartbeats 800000 in
theorem qValid_k2 (f : Nat) (S : ByteArray) (pk : Int) (g s l p t i c : Nat) (oP oL : Bool) (h1 : ¬ (S.size : Int) < 1) (h64 : ¬ (64 : Int) < (S.size : Int)) (hP : ∀ u, (binOp .eql 28 (.agg #[.int .i64 pk, V g, V s, V l, V p]) (.agg #[.int .i64 0, Z, Z, Z, Z])).run Tryd.prog u = .ok (.bool oP) u) (hL : ∀ u, (binOp .eql 30 (.agg #[V t, V i, V c]) (.agg #[Z, Z, Z])).run Tryd.prog u = .ok (.bool oL) u) (w : World) :
    Calls Tryd.prog 17 #[RcV 2 f S pk g s l p t i c] w fun e w' => e = .returned (.bool (oP && oL)) ∧ Up w w' := by
  cases oP
  all_goals
    go_enter Tryd.func17, Tryd.ntmps17
    go_wp2
    go_ret
    exact ⟨rfl, Up.alloc _ _⟩
set_option maxHeartbeats 1600000 in
theorem qValid_k3 (f : Nat) (S : ByteArray) (pk : Int) (g s l p t i c : Nat) (oP : Bool) (h1 : ¬ (S.size : Int) < 1) (h64 : ¬ (64 : Int) < (S.size : Int)) (hP : ∀ u, (binOp .eql 28 (.agg #[.int .i64 pk, V g, V s, V l, V p]) (.agg #[.int .i64 0, Z, Z, Z, Z])).run Tryd.prog u = .ok (.bool oP) u) (w : World) :
    Calls Tryd.prog 17 #[RcV 3 f S pk g s l p t i c] w fun e w' => e = .returned (.bool (oP && decide (t = 0 ∨ i = 0 ∧ c = 0))) ∧ Up w w' := by
  obtain ⟨o, ho⟩ : ∃ o, decide (t = 0 ∨ i = 0 ∧ c = 0) = o := ⟨_, rfl⟩
  rw [ho]
  replace ho : Hid (decide (t = 0 ∨ i = 0 ∧ c = 0) = o) := ho
  cases oP
  · clear ho
    go_enter Tryd.func17, Tryd.ntmps17
    go_wp2
    go_ret
    exact ⟨rfl, Up.alloc _ _⟩
  · rcases Bool.eq_false_or_eq_true ((t : Int) == 0) with e1 | e1
    · obtain rfl : o = true := by rw [← ho.out]; have : t = 0 := (by simpa using e1); simp [this]
      clear ho
      go_enter Tryd.func17, Tryd.ntmps17
      go_wp2
      go_ret
      exact ⟨rfl, Up.alloc _ _⟩
    · have n1 : ¬ t = 0 := by simpa using e1
      rcases Bool.eq_false_or_eq_true ((i : Int) == 0) with e2 | e2
      · have q2 : i = 0 := by simpa using e2
        rcases Bool.eq_false_or_eq_true ((c : Int) == 0) with e3 | e3
        · obtain rfl : o = true := by rw [← ho.out]; have : c = 0 := (by simpa using e3); simp [q2, this]
          clear ho n1 q2
          go_enter Tryd.func17, Tryd.ntmps17
          go_wp2
          go_ret
          exact ⟨rfl, Up.alloc _ _⟩
        · obtain rfl : o = false := by rw [← ho.out]; have : ¬ c = 0 := (by simpa using e3); simp [n1, this]
          clear ho n1 q2
          go_enter Tryd.func17, Tryd.ntmps17
          go_wp2
          go_ret
          exact ⟨rfl, Up.alloc _ _⟩
      · obtain rfl : o = false := by rw [← ho.out]; have : ¬ i = 0 := (by simpa using e2); simp [n1, this]
        clear ho n1
        go_enter Tryd.func17, Tryd.ntmps17
        go_wp2
        go_ret
        exact ⟨rfl, Up.alloc _ _⟩

theorem qValid_any (r : RecV) (w : World) :
    Calls Tryd.prog 17 #[RV r] w fun e w' => e = .returned (.bool (decide (validR r))) ∧ Up w w' := by
  have hsz := key_size r.key
  have hP := policy_zero r.pk r.gap r.slack r.limit r.span
  have hL := level_zero r.tat r.idx r.cnt
  have hV := fun w => qvalid6_any r.pk r.gap r.slack r.limit r.span w
  have hpv : pValid ⟨r.pk, r.gap, r.slack, r.limit, r.span⟩ = decide (polOk r) := rfl
  rw [hpv] at hV
  by_cases h0 : r.key.length = 0
  · rw [show decide (validR r) = false from decide_eq_false fun q => by have := q.1; omega]
    exact qValid_none _ _ _ _ _ _ _ _ _ _ _ (by rw [hsz, h0]; decide) w
  · have e1 : ¬ ((⟨r.key.toArray⟩ : ByteArray).size : Int) < 1 := by rw [hsz]; omega
    by_cases h64 : 64 < r.key.length
    · rw [show decide (validR r) = false from decide_eq_false fun q => by have := q.2.1; omega]
      exact qValid_long _ _ _ _ _ _ _ _ _ _ _ e1 (by rw [hsz]; omega) w
    · have e64 : ¬ (64 : Int) < ((⟨r.key.toArray⟩ : ByteArray).size : Int) := by rw [hsz]; omega
      by_cases k1 : r.kind = 1
      · rw [show decide (validR r) = (decide (polOk r) && decide (lvlNo r)) by
          rw [and_dec]
          refine decide_eq_decide.2 ⟨fun q => ?_, fun q => ⟨by omega, by omega, .inl ⟨k1, q.1, q.2⟩⟩⟩
          rcases q.2.2 with h | h | h
          · exact h.2
          · have := h.1; omega
          · have := h.1; omega]
        have := qValid_k1 r.floor ⟨r.key.toArray⟩ r.pk r.gap r.slack r.limit r.span r.tat r.idx r.cnt _ _ e1 e64 hL hV w
        rw [← k1] at this
        exact this
      · by_cases k2 : r.kind = 2
        · rw [show decide (validR r) = (decide (polNo r) && decide (lvlNo r)) by
            rw [and_dec]
            refine decide_eq_decide.2 ⟨fun q => ?_, fun q => ⟨by omega, by omega, .inr (.inl ⟨k2, q.1, q.2⟩)⟩⟩
            rcases q.2.2 with h | h | h
            · have := h.1; omega
            · exact h.2
            · have := h.1; omega]
          have := qValid_k2 r.floor ⟨r.key.toArray⟩ r.pk r.gap r.slack r.limit r.span r.tat r.idx r.cnt _ _ e1 e64 hP hL w
          rw [← k2] at this
          exact this
        · by_cases k3 : r.kind = 3
          · rw [show decide (validR r) = (decide (polNo r) && decide (r.tat = 0 ∨ r.idx = 0 ∧ r.cnt = 0)) by
              rw [and_dec]
              refine decide_eq_decide.2 ⟨fun q => ?_, fun q => ⟨by omega, by omega, .inr (.inr ⟨k3, q.1, q.2⟩)⟩⟩
              rcases q.2.2 with h | h | h
              · have := h.1; omega
              · have := h.1; omega
              · exact h.2]
            have := qValid_k3 r.floor ⟨r.key.toArray⟩ r.pk r.gap r.slack r.limit r.span r.tat r.idx r.cnt _ e1 e64 hP w
            rw [← k3] at this
            exact this
          · rw [show decide (validR r) = false from decide_eq_false fun q => by
              rcases q.2.2 with h | h | h
              · exact k1 h.1
              · exact k2 h.1
              · exact k3 h.1]
            exact qValid_other r.kind r.floor ⟨r.key.toArray⟩ r.pk r.gap r.slack r.limit r.span r.tat r.idx r.cnt e1 e64 k1 k2 k3 w
end Go.Proofs.YtcllenlpoknakaaDoor
