/- Merged: RcDecA. -/
import Derived.Test.YtcllenlpoknakaaDoorMr24
set_option linter.unusedVariables false
set_option linter.unusedSimpArgs false
namespace Go.Proofs.YtcllenlpoknakaaDoor
open Go Go.RowKit

theorem st_rd {α : Type} (n : Nat) (s : Option (List UInt8)) (g : Nat × List UInt8 → Option α) : (s.bind fun b => (rd n b).bind g) = (rdA n s).2.bind fun r => g ((rdA n s).1, r) := by
  cases s with
  | none => rfl
  | some bs =>
    simp only [Option.bind_some, rd, rdA]
    split <;> rfl
theorem st_rdT {α : Type} (s : Option (List UInt8)) (g : List UInt8 × List UInt8 → Option α) : (s.bind fun b1 => (rd 2 b1).bind fun q => (rdT q.1 q.2).bind g) = (rdTA s).2.bind fun r => g ((rdTA s).1, r) := by
  cases s with
  | none => rfl
  | some bs =>
    simp only [Option.bind_some, rd, rdTA]
    split
    · rfl
    · simp only [Option.bind_some, rdT]
      split <;> rfl
/-- The fields by the reader's states. -/
theorem fields_1 {bs key : List UInt8} {f x y z : Nat} {s2 s3 s4 s5 s6 : Option (List UInt8)} (e1 : rdA 8 (some bs) = (f, s2)) (e2 : rdTA s2 = (key, s3)) (e3 : rdA 1 s3 = (x, s4)) (e4 : rdA 8 s4 = (y, s5)) (e5 : rdA 8 s5 = (z, s6)) :
    fields 1 bs = s6.map fun rest => (polV x y z (rec0 1 f key), rest) := by
  have hk : fields 1 bs = (some bs).bind fun b => (rd 8 b).bind fun q => (rd 2 q.2).bind fun t => (rdT t.1 t.2).bind fun u => (rd 1 u.2).bind fun p => (rd 8 p.2).bind fun x => (rd 8 x.2).bind fun y => some (polV p.1 x.1 y.1 (rec0 1 q.1 u.1), y.2) := rfl
  rw [hk, st_rd 8 (some bs), e1]
  dsimp only
  rw [st_rdT s2, e2]
  dsimp only
  rw [st_rd 1 s3, e3]
  dsimp only
  rw [st_rd 8 s4, e4]
  dsimp only
  rw [st_rd 8 s5, e5]
  dsimp only
  cases s6 <;> rfl
theorem fields_3 {bs key : List UInt8} {f x y z : Nat} {s2 s3 s4 s5 s6 : Option (List UInt8)} (e1 : rdA 8 (some bs) = (f, s2)) (e2 : rdTA s2 = (key, s3)) (e3 : rdA 8 s3 = (x, s4)) (e4 : rdA 8 s4 = (y, s5)) (e5 : rdA 8 s5 = (z, s6)) :
    fields 3 bs = s6.map fun rest => ({ rec0 3 f key with tat := x, idx := y, cnt := z }, rest) := by
  have hk : fields 3 bs = (some bs).bind fun b => (rd 8 b).bind fun q => (rd 2 q.2).bind fun t => (rdT t.1 t.2).bind fun u => (rd 8 u.2).bind fun p => (rd 8 p.2).bind fun x => (rd 8 x.2).bind fun y => some ({ rec0 3 q.1 u.1 with tat := p.1, idx := x.1, cnt := y.1 }, y.2) := rfl
  rw [hk, st_rd 8 (some bs), e1]
  dsimp only
  rw [st_rdT s2, e2]
  dsimp only
  rw [st_rd 8 s3, e3]
  dsimp only
  rw [st_rd 8 s4, e4]
  dsimp only
  rw [st_rd 8 s5, e5]
  dsimp only
  cases s6 <;> rfl
theorem fields_2 {bs key : List UInt8} {f : Nat} {s2 s3 : Option (List UInt8)} (e1 : rdA 8 (some bs) = (f, s2)) (e2 : rdTA s2 = (key, s3)) :
    fields 2 bs = s3.map fun rest => (rec0 2 f key, rest) := by
  have hk : fields 2 bs = (some bs).bind fun b => (rd 8 b).bind fun q => (rd 2 q.2).bind fun t => (rdT t.1 t.2).bind fun u => some (rec0 2 q.1 u.1, u.2) := rfl
  rw [hk, st_rd 8 (some bs), e1]
  dsimp only
  rw [st_rdT s2, e2]
  dsimp only
  cases s3 <;> rfl

/-- What Decode answers. -/
def RDec (aS aF : Addr) (e : Ending) : Except RecE RecV → Prop
  | .error .short => e = .returned (.tuple #[.agg Zs, E aS])
  | .error .form => e = .returned (.tuple #[.agg Zs, E aF])
  | .ok r => e = .returned (.tuple #[RV r, .nilIface])
def fin (st : Option (RecV × List UInt8)) : Except RecE RecV :=
  match st with
  | none => .error .short
  | some (r, rest) => if rest ≠ [] ∨ ¬ validR r then .error .form else .ok r
theorem decR_kind {b b1 : List UInt8} {k : Nat} (e0 : rdA 1 (some b) = (k, some b1)) (h1 : 1 ≤ k) (h3 : k ≤ 3) : decR b = fin (fields k b1) := by
  have hr : rd 1 b = some (k, b1) := by
    simp only [rdA] at e0
    unfold rd
    by_cases h : b.length < 1
    · rw [if_pos h] at e0; cases e0
    · rw [if_neg h] at e0 ⊢
      simp only [Prod.mk.injEq, Option.some.injEq] at e0
      rw [e0.1, e0.2]
  unfold decR
  rw [hr]
  simp only
  rw [if_neg (by omega)]
  rfl
theorem dec_end {aS aF : Addr} {e : Ending} {st : Option (List UInt8)} {q r : RecV} (hq : validR q ↔ validR r) (he : validR q → q = r) (h : e = .returned (decT aS aF st (decide (validR q)) (RV q))) : RDec aS aF e (fin (st.map fun rest => (r, rest))) := by
  cases st with
  | none => exact h
  | some l =>
    cases l with
    | nil =>
      by_cases hv : validR q
      · rw [decide_eq_true hv] at h
        have e : fin ((some ([] : List UInt8)).map fun rest => (r, rest)) = .ok r := by simp [fin, hq.1 hv]
        rw [e, ← he hv]
        exact h
      · rw [decide_eq_false hv] at h
        have hn : ¬ validR r := fun k => hv (hq.2 k)
        have e : fin ((some ([] : List UInt8)).map fun rest => (r, rest)) = .error .form := by simp [fin, hn]
        rw [e]
        exact h
    | cons c t =>
      have e : fin ((some (c :: t)).map fun rest => (r, rest)) = .error .form := by simp [fin]
      rw [e]
      exact h
set_option maxHeartbeats 400000 in
theorem RDecode_any (base : Nat) (v : Value) (b : List UInt8) (w : World) (aS aF : Addr) (hs : Sl base w v b) (hl : b.length ≤ 140737488351232) (hgS : Gl w 1 aS) (hgF : Gl w 2 aF) :
    Calls Tryd.prog 14 #[v] w fun e w' => RDec aS aF e (decR b) ∧ Up w w' := by
  rcases e0 : rdA 1 (some b) with ⟨k, _ | b1⟩
  · have hb : b = [] := by
      simp only [rdA] at e0
      by_cases h : b.length < 1
      · exact List.eq_nil_of_length_eq_zero (by omega)
      · rw [if_neg h] at e0; cases e0
    subst hb
    exact Decode_short1 base v [] w aS aF hs hl hgS hgF rfl rfl
  · by_cases hk : k < 1 ∨ 3 < k
    · have e : decR b = .error .form := by
        have hr : rd 1 b = some (k, b1) := by
          simp only [rdA] at e0
          unfold rd
          by_cases h : b.length < 1
          · rw [if_pos h] at e0; cases e0
          · rw [if_neg h] at e0 ⊢
            simp only [Prod.mk.injEq, Option.some.injEq] at e0
            rw [e0.1, e0.2]
        unfold decR
        rw [hr]
        simp only
        rw [if_pos hk]
      rw [e]
      exact Decode_kind base v b w aS aF hs hl hgS hgF e0 (by omega)
    · rw [decR_kind e0 (by omega) (by omega)]
      rcases e1 : rdA 8 (some b1) with ⟨f, s2⟩
      rcases e2 : rdTA s2 with ⟨key, s3⟩
      have k123 : k = 1 ∨ k = 2 ∨ k = 3 := by omega
      rcases k123 with rfl | rfl | rfl
      · rcases e3 : rdA 1 s3 with ⟨x, s4⟩
        rcases e4 : rdA 8 s4 with ⟨y, s5⟩
        rcases e5 : rdA 8 s5 with ⟨z, s6⟩
        rw [fields_1 e1 e2 e3 e4 e5]
        by_cases h2 : x = 2
        · refine (Decode_grid base v b w aS aF hs hl hgS hgF (decide (validR { rec0 1 f key with pk := x, limit := y, span := z })) e0 e1 e2 e3 e4 e5 (by rw [h2]; rfl) _ rfl (RValid_any { rec0 1 f key with pk := x, limit := y, span := z })).mono ?_
          rintro e w' ⟨he, hu⟩
          refine ⟨dec_end (q := { rec0 1 f key with pk := x, limit := y, span := z }) ?_ ?_ he, hu⟩ <;> simp [polV, h2]
        · refine (Decode_flow base v b w aS aF hs hl hgS hgF (decide (validR { rec0 1 f key with pk := x, gap := y, slack := z })) e0 e1 e2 e3 e4 e5 (by simp; omega) _ rfl (RValid_any { rec0 1 f key with pk := x, gap := y, slack := z })).mono ?_
          rintro e w' ⟨he, hu⟩
          by_cases h1 : x = 1
          · refine ⟨dec_end (q := { rec0 1 f key with pk := x, gap := y, slack := z }) ?_ ?_ he, hu⟩ <;> simp [polV, h1]
          · have n1 : ¬ validR { rec0 1 f key with pk := x, gap := y, slack := z } := by
              rintro ⟨_, _, h | h | h⟩
              · rcases h.2.1 with q | q
                · exact h1 (by have := q.1; simp only at this; omega)
                · exact h2 (by have := q.1; simp only at this; omega)
              · exact absurd h.1 (by simp [rec0])
              · exact absurd h.1 (by simp [rec0])
            have n2 : ¬ validR (polV x y z (rec0 1 f key)) := by
              simp only [polV, if_neg h1]
              rintro ⟨_, _, h | h | h⟩
              · rcases h.2.1 with q | q
                · exact h1 (by have := q.1; simp only at this; omega)
                · exact h2 (by have := q.1; simp only at this; omega)
              · exact absurd h.1 (by simp [rec0])
              · exact absurd h.1 (by simp [rec0])
            exact ⟨dec_end (q := { rec0 1 f key with pk := x, gap := y, slack := z }) ⟨fun h => absurd h n1, fun h => absurd h n2⟩ (fun h => absurd h n1) he, hu⟩
      · rw [fields_2 e1 e2]
        refine (Decode_del base v b w aS aF hs hl hgS hgF (decide (validR (rec0 2 f key))) e0 e1 e2 _ rfl (RValid_any (rec0 2 f key))).mono ?_
        rintro e w' ⟨he, hu⟩
        exact ⟨dec_end (q := rec0 2 f key) Iff.rfl (fun _ => rfl) he, hu⟩
      · rcases e3 : rdA 8 s3 with ⟨x, s4⟩
        rcases e4 : rdA 8 s4 with ⟨y, s5⟩
        rcases e5 : rdA 8 s5 with ⟨z, s6⟩
        rw [fields_3 e1 e2 e3 e4 e5]
        refine (Decode_ceil base v b w aS aF hs hl hgS hgF (decide (validR { rec0 3 f key with tat := x, idx := y, cnt := z })) e0 e1 e2 e3 e4 e5 _ rfl (RValid_any { rec0 3 f key with tat := x, idx := y, cnt := z })).mono ?_
        rintro e w' ⟨he, hu⟩
        exact ⟨dec_end (q := { rec0 3 f key with tat := x, idx := y, cnt := z }) Iff.rfl (fun _ => rfl) he, hu⟩
end Go.Proofs.YtcllenlpoknakaaDoor
