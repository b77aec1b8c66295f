/- state: a state in lists, whether it is one, what a record makes of it, what a row of records makes of it. Own work; imports nothing of the program. -/
import Derived.Test.YtdddfapelencoaaDoorLkA
import Derived.Test.YtdddfapelencoaaDoorPlNum
import Derived.Test.YtdddfapelencoaaDoorLkB
set_option linter.unusedVariables false
set_option linter.unusedSimpArgs false
namespace Go.Proofs.YtdddfapelencoaaDoor
open Go Go.RowKit

instance : DecidableEq Pol := fun a b => decidable_of_iff (a.k = b.k ∧ a.g = b.g ∧ a.s = b.s ∧ a.l = b.l ∧ a.p = b.p) (by cases a; cases b; simp)
/-- An entry: a key, its policy, its level. -/
abbrev Ent := KV (Pol × Lev)
abbrev kb (r : RecV) : ByteArray := ⟨r.key.toArray⟩
abbrev rPol (r : RecV) : Pol := ⟨r.pk, r.gap, r.slack, r.limit, r.span⟩
abbrev rLev (r : RecV) : Lev := ⟨r.tat, r.idx, r.cnt⟩
structure StV where
  lsn : Nat
  floor : Nat
  keys : List Ent
deriving DecidableEq
abbrev noKey : ByteArray := ⟨#[]⟩
def okFrom : ByteArray → List Ent → Bool
  | _, [] => true
  | last, x :: xs => kl last x.1 && decide (x.1.size ≤ 64) && pFits x.2.1 x.2.2 && okFrom x.1 xs
/-- Whether a state is one. -/
def okS (s : StV) : Bool := decide (s.lsn ≤ 4611686018427387904) && decide (s.keys.length ≤ 4096) && okFrom noKey s.keys

theorem okFrom_iff : ∀ (xs : List Ent) (last : ByteArray), okFrom last xs = true ↔ Srt xs ∧ (∀ x ∈ xs, kl last x.1 = true) ∧ ∀ x ∈ xs, x.1.size ≤ 64 ∧ pFits x.2.1 x.2.2 = true
  | [], last => by simp [okFrom, Srt]
  | x :: xs, last => by
    have ih := okFrom_iff xs x.1
    simp only [okFrom, Bool.and_eq_true, decide_eq_true_eq, ih, Srt, List.pairwise_cons, List.forall_mem_cons]
    constructor
    · rintro ⟨⟨⟨h1, h2⟩, h3⟩, h4, h5, h6⟩
      exact ⟨⟨h5, h4⟩, ⟨h1, fun y hy => kl_trans h1 (h5 y hy)⟩, ⟨h2, h3⟩, h6⟩
    · rintro ⟨⟨h5, h4⟩, ⟨h1, _⟩, ⟨h2, h3⟩, h6⟩
      exact ⟨⟨⟨h1, h2⟩, h3⟩, h4, h5, h6⟩
theorem kl_no (k : ByteArray) : kl noKey k = true ↔ 1 ≤ k.size := by
  rw [kl_iff]
  have e : k.size = k.data.toList.length := (Array.length_toList (xs := k.data)).symm
  rw [e]
  show ([] : List UInt8) < k.data.toList ↔ _
  cases k.data.toList with
  | nil => exact ⟨fun h => absurd h (List.lt_irrefl _), fun h => absurd h (by decide)⟩
  | cons x r => exact ⟨fun _ => Nat.succ_le_succ (Nat.zero_le _), fun _ => List.nil_lt_cons _ _⟩
structure OkS (s : StV) : Prop where
  lsn : s.lsn ≤ 4611686018427387904
  len : s.keys.length ≤ 4096
  srt : Srt s.keys
  each : ∀ x ∈ s.keys, 1 ≤ x.1.size ∧ x.1.size ≤ 64 ∧ pFits x.2.1 x.2.2 = true
theorem okS_iff (s : StV) : okS s = true ↔ OkS s := by
  simp only [okS, Bool.and_eq_true, decide_eq_true_eq, okFrom_iff]
  constructor
  · rintro ⟨⟨h1, h2⟩, h3, h4, h5⟩
    exact ⟨h1, h2, h3, fun x hx => ⟨(kl_no _).1 (h4 x hx), h5 x hx⟩⟩
  · rintro ⟨h1, h2, h3, h4⟩
    exact ⟨⟨h1, h2⟩, h3, fun x hx => (kl_no _).2 (h4 x hx).1, fun x hx => (h4 x hx).2⟩

/-- What a record makes of the keys; none where they can't have it. -/
def chg (xs : List Ent) (r : RecV) : Option (List Ent) :=
  if r.kind = 1 then (if (getL (kb r) xs).isSome || decide (4096 ≤ xs.length) then none else some (putL (kb r) (rPol r, Lev0) xs))
  else if r.kind = 2 then (if (getL (kb r) xs).isSome then some (delL (kb r) xs) else none)
  else match getL (kb r) xs with
    | some v => if pFits v.1 (rLev r) && pCov v.1 (rLev r) v.2 then some (putL (kb r) (v.1, rLev r) xs) else none
    | none => none
inductive Flw where
  | arg : Flw
  | gap : Flw
  | log : Flw
/-- One step: what a state is behind a record. -/
def stepS (s : StV) (lsn : Nat) (r : RecV) : Except Flw StV :=
  if ¬ validR r then .error .arg
  else if lsn ≠ s.lsn + 1 ∨ 4611686018427387904 < lsn then .error .gap
  else match chg s.keys r with
    | none => .error .log
    | some xs => .ok ⟨lsn, max s.floor r.floor, xs⟩
def runS : StV → Nat → List RecV → Except Flw StV
  | s, _, [] => .ok s
  | s, f, r :: rs => match stepS s f r with
    | .error e => .error e
    | .ok t => runS t (f + 1) rs
def applyS (s : StV) (lsn : Nat) (r : RecV) : Except Flw StV := if okS s then stepS s lsn r else .error .arg
def replayS (s : StV) (first : Nat) (rs : List RecV) : Except Flw StV :=
  if okS s && decide (first ≠ 0) then (if first ≤ s.lsn then runS s (first + min (s.lsn - first + 1) rs.length) (rs.drop (min (s.lsn - first + 1) rs.length)) else runS s first rs) else .error .arg

theorem chg_ok {xs ys : List Ent} {r : RecV} (hr : validR r) (hs : Srt xs) (hl : xs.length ≤ 4096) (he : ∀ x ∈ xs, 1 ≤ x.1.size ∧ x.1.size ≤ 64 ∧ pFits x.2.1 x.2.2 = true) (h : chg xs r = some ys) :
    Srt ys ∧ ys.length ≤ 4096 ∧ ∀ x ∈ ys, 1 ≤ x.1.size ∧ x.1.size ≤ 64 ∧ pFits x.2.1 x.2.2 = true := by
  have hk : (kb r).size = r.key.length := rfl
  have hput : ∀ v : Pol × Lev, pFits v.1 v.2 = true → ∀ x ∈ putL (kb r) v xs, 1 ≤ x.1.size ∧ x.1.size ≤ 64 ∧ pFits x.2.1 x.2.2 = true := fun v hv x hx => by
    unfold putL at hx
    rcases List.mem_append.1 hx with h1 | h1
    · exact he x (List.mem_filter.1 h1).1
    · rcases List.mem_cons.1 h1 with rfl | h2
      · exact ⟨by show 1 ≤ (kb r).size; rw [hk]; exact hr.1, by show (kb r).size ≤ 64; rw [hk]; exact hr.2.1, hv⟩
      · exact he x (List.mem_filter.1 h2).1
  unfold chg at h
  split at h
  · rename_i k1
    split at h
    · cases h
    · rename_i hc
      obtain rfl := Option.some.inj h
      simp only [Bool.or_eq_true, decide_eq_true_eq, not_or] at hc
      refine ⟨srt_put hs _ _, ?_, hput _ ?_⟩
      · rw [length_put hs, if_neg hc.1]; omega
      · rcases hr.2.2 with q | q | q
        · have hp : polOk r := q.2.1
          unfold pFits pForm
          refine decide_eq_true ⟨hp, ?_⟩
          rcases hp with p | p
          · rw [if_pos (show (rPol r).F from p)]; rfl
          · have hg : (rPol r).G := p
            rw [if_neg (fun f : (rPol r).F => f_not_g f hg), if_pos hg]; rfl
        · omega
        · omega
  · split at h
    · split at h
      · rename_i hg
        obtain rfl := Option.some.inj h
        obtain ⟨v, hv⟩ := Option.isSome_iff_exists.1 hg
        have := length_del hs hv
        refine ⟨srt_del hs _, by omega, fun x hx => ?_⟩
        unfold delL at hx
        rcases List.mem_append.1 hx with h1 | h1
        · exact he x (List.mem_filter.1 h1).1
        · exact he x (List.mem_filter.1 h1).1
      · cases h
    · split at h
      · rename_i v hv
        split at h
        · rename_i hc
          obtain rfl := Option.some.inj h
          simp only [Bool.and_eq_true] at hc
          refine ⟨srt_put hs _ _, ?_, hput _ hc.1⟩
          rw [length_put hs, hv]
          exact hl
        · cases h
      · cases h
theorem step_lsn {s t : StV} {n : Nat} {r : RecV} (h : stepS s n r = .ok t) : n = s.lsn + 1 ∧ t.lsn = n ∧ n ≤ 4611686018427387904 := by
  unfold stepS at h
  split at h
  · cases h
  · split at h
    · cases h
    · rename_i hn
      split at h
      · cases h
      · obtain rfl := Except.ok.inj h
        exact ⟨by omega, rfl, by omega⟩
theorem step_ok {s t : StV} {n : Nat} {r : RecV} (hs : OkS s) (h : stepS s n r = .ok t) : OkS t := by
  have hl := step_lsn h
  unfold stepS at h
  split at h
  · cases h
  · rename_i hv
    split at h
    · cases h
    · split at h
      · cases h
      · rename_i ys hc
        obtain rfl := Except.ok.inj h
        have := chg_ok (Decidable.not_not.1 hv) hs.srt hs.len hs.each hc
        exact ⟨hl.2.2, this.2.1, this.1, this.2.2⟩
theorem run_ok : ∀ (rs : List RecV) {s t : StV} {n : Nat}, OkS s → runS s n rs = .ok t → OkS t
  | [], s, t, n, hs, h => by obtain rfl := Except.ok.inj h; exact hs
  | r :: rs, s, t, n, hs, h => by
    unfold runS at h
    split at h
    · cases h
    · rename_i t1 h1
      exact run_ok rs (step_ok hs h1) h
/-- Behind each step the number is one more. -/
theorem run_lsn : ∀ (rs : List RecV) {s t : StV} {n : Nat}, runS s n rs = .ok t → rs ≠ [] → n = s.lsn + 1 ∧ t.lsn + 1 = n + rs.length
  | [], s, t, n, h, hn => absurd rfl hn
  | r :: rs, s, t, n, h, _ => by
    unfold runS at h
    split at h
    · cases h
    · rename_i t1 h1
      have hl := step_lsn h1
      cases rs with
      | nil =>
        obtain rfl := Except.ok.inj h
        exact ⟨hl.1, by simp; omega⟩
      | cons r2 rs =>
        have := run_lsn (r2 :: rs) h (by simp)
        exact ⟨hl.1, by simp at this ⊢; omega⟩
theorem run_app : ∀ (a b : List RecV) (s : StV) (n : Nat), runS s n (a ++ b) = match runS s n a with | .error e => .error e | .ok t => runS t (n + a.length) b
  | [], b, s, n => by simp [runS]
  | r :: a, b, s, n => by
    simp only [List.cons_append, runS]
    cases stepS s n r with
    | error e => rfl
    | ok t =>
      simp only
      rw [run_app a b t (n + 1), List.length_cons, show n + 1 + a.length = n + (a.length + 1) by omega]
end Go.Proofs.YtdddfapelencoaaDoor
