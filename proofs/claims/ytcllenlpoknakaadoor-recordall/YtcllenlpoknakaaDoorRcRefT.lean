/- record: the reference's Decode by decR. -/
import Derived.Test.YtcllenlpoknakaaDoorRcRefD
set_option linter.unusedVariables false
set_option linter.unusedSimpArgs false
namespace Go.Proofs.YtcllenlpoknakaaDoor
open Go Go.RowKit

/-- What the reference's Decode answers. -/
def QDec (e : Ending) : Except RecE RecV → Prop
  | .error .short => e = .returned (.tuple #[.agg Zs, .int .i64 2])
  | .error .form => e = .returned (.tuple #[.agg Zs, .int .i64 3])
  | .ok r => e = .returned (.tuple #[RV r, .int .i64 0])
theorem qdec_end {e : Ending} {st : Option (List UInt8)} {r : RecV} (h : e = .returned (qdecT st (decide (validR r)) (RV r))) : QDec e (fin (st.map fun rest => (r, rest))) := by
  cases st with
  | none => exact h
  | some l =>
    cases l with
    | nil =>
      by_cases hv : validR r
      · rw [decide_eq_true hv] at h
        have e : fin ((some ([] : List UInt8)).map fun rest => (r, rest)) = .ok r := by simp [fin, hv]
        rw [e]
        exact h
      · rw [decide_eq_false hv] at h
        have e : fin ((some ([] : List UInt8)).map fun rest => (r, rest)) = .error .form := by simp [fin, hv]
        rw [e]
        exact h
    | cons c t =>
      have e : fin ((some (c :: t)).map fun rest => (r, rest)) = .error .form := by simp [fin]
      rw [e]
      exact h
set_option maxHeartbeats 400000 in
theorem qDecode_any (base : Nat) (v : Value) (b : List UInt8) (w : World) (hs : Sl base w v b) (hl : (b.length : Int) ≤ 140737488351232) :
    Calls Tryd.prog 20 #[v] w fun e w' => QDec e (decR b) ∧ Up w w' := by
  rcases e0 : rdA 1 (some b) with ⟨k, _ | b1⟩
  · have hb : b = [] ∧ k = 0 := by
      simp only [rdA] at e0
      by_cases h : b.length < 1
      · rw [if_pos h] at e0
        simp only [Prod.mk.injEq] at e0
        exact ⟨List.eq_nil_of_length_eq_zero (by omega), e0.1.symm⟩
      · rw [if_neg h] at e0; cases e0
    obtain ⟨rfl, rfl⟩ := hb
    exact qDecode_short1 base v [] w hs hl rfl
  · by_cases hk : k < 1 ∨ 3 < k
    · have e : decR b = .error .form := by
        have hr : rd 1 b = some (k, b1) := by
          simp only [rdA] at e0
          unfold rd
          by_cases h : b.length < 1
          · rw [if_pos h] at e0; cases e0
          · rw [if_neg h] at e0 ⊢
            simp only [Prod.mk.injEq, Option.some.injEq] at e0
            rw [e0.1, e0.2]
        unfold decR
        rw [hr]
        simp only
        rw [if_pos hk]
      rw [e]
      exact qDecode_kind base v b w hs hl e0 (by omega)
    · rw [decR_kind e0 (by omega) (by omega)]
      rcases e1 : rdA 8 (some b1) with ⟨f, s2⟩
      rcases e2 : rdTA s2 with ⟨key, s3⟩
      have k123 : k = 1 ∨ k = 2 ∨ k = 3 := by omega
      rcases k123 with rfl | rfl | rfl
      · rcases e3 : rdA 1 s3 with ⟨x, s4⟩
        rcases e4 : rdA 8 s4 with ⟨y, s5⟩
        rcases e5 : rdA 8 s5 with ⟨z, s6⟩
        rw [fields_1 e1 e2 e3 e4 e5]
        by_cases h1 : x = 1
        · subst h1
          refine (qDecode_flow base v b w hs hl (decide (validR (polV 1 y z (rec0 1 f key)))) e0 e1 e2 e3 e4 e5 rfl _ rfl (qValid_any (polV 1 y z (rec0 1 f key)))).mono ?_
          rintro e w' ⟨he, hu⟩
          exact ⟨qdec_end (r := polV 1 y z (rec0 1 f key)) he, hu⟩
        · have ep : polV x y z (rec0 1 f key) = { rec0 1 f key with pk := x, limit := y, span := z } := by simp only [polV, if_neg h1]
          rw [ep]
          refine (qDecode_grid base v b w hs hl (decide (validR { rec0 1 f key with pk := x, limit := y, span := z })) e0 e1 e2 e3 e4 e5 (by simp; omega) _ rfl (qValid_any { rec0 1 f key with pk := x, limit := y, span := z })).mono ?_
          rintro e w' ⟨he, hu⟩
          exact ⟨qdec_end (r := { rec0 1 f key with pk := x, limit := y, span := z }) he, hu⟩
      · rw [fields_2 e1 e2]
        refine (qDecode_del base v b w hs hl (decide (validR (rec0 2 f key))) e0 e1 e2 _ rfl (qValid_any (rec0 2 f key))).mono ?_
        rintro e w' ⟨he, hu⟩
        exact ⟨qdec_end (r := rec0 2 f key) he, hu⟩
      · rcases e3 : rdA 8 s3 with ⟨x, s4⟩
        rcases e4 : rdA 8 s4 with ⟨y, s5⟩
        rcases e5 : rdA 8 s5 with ⟨z, s6⟩
        rw [fields_3 e1 e2 e3 e4 e5]
        refine (qDecode_ceil base v b w hs hl (decide (validR { rec0 3 f key with tat := x, idx := y, cnt := z })) e0 e1 e2 e3 e4 e5 _ rfl (qValid_any { rec0 3 f key with tat := x, idx := y, cnt := z })).mono ?_
        rintro e w' ⟨he, hu⟩
        exact ⟨qdec_end (r := { rec0 3 f key with tat := x, idx := y, cnt := z }) he, hu⟩
end Go.Proofs.YtcllenlpoknakaaDoor
