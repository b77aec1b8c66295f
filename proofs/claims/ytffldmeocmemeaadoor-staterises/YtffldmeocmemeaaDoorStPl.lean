/- state: where a key stands in a row of pairs by rising keys (as wip/table's TbRow has it, without the program). Own work. -/
import Derived.Test.YtffldmeocmemeaaDoorTbTree
set_option linter.unusedVariables false
set_option linter.unusedSimpArgs false
namespace Go.Proofs.YtffldmeocmemeaaDoor
open Go Go.RowKit

variable {α : Type}
theorem from_pos {k : ByteArray} {x : KV α} (B : List (KV α)) (h : kl x.1 k = false) : fromL k (x :: B) = x :: fromL k B := List.filter_cons_of_pos (by simp [h])
theorem from_neg {k : ByteArray} {x : KV α} (B : List (KV α)) (h : kl x.1 k = true) : fromL k (x :: B) = fromL k B := List.filter_cons_of_neg (by simp [h])
/-- A sorted row is what comes ahead of a key and what doesn't. -/
theorem lo_from {k : ByteArray} : ∀ {xs : List (KV α)}, Srt xs → xs = lo k xs ++ fromL k xs
  | [], _ => rfl
  | x :: xs, h => by
    have h' := List.pairwise_cons.1 h
    cases e : kl x.1 k with
    | true => rw [lo_pos _ e, from_neg _ e, List.cons_append, ← lo_from h'.2]
    | false =>
      have hn : ∀ y ∈ xs, kl y.1 k = false := fun y hy => by
        cases e2 : kl y.1 k
        · rfl
        · rw [kl_trans (h'.1 y hy) e2] at e; cases e
      rw [lo_neg _ e, from_pos _ e, lo_none hn, List.nil_append, fromL, List.filter_eq_self.2 (fun y hy => by simp [hn y hy])]
theorem from_some {xs : List (KV α)} {k : ByteArray} {v : α} (h : Srt xs) (hg : getL k xs = some v) : fromL k xs = (k, v) :: hi k xs := by
  obtain ⟨A, B, rfl⟩ := getL_some hg
  obtain ⟨_, _, h3, h4⟩ := h.parts
  rw [from_left h (kl_irr k), (at_here h).2, fromL, List.filter_eq_nil_iff.2 (fun x hx => by simp [h3 x hx]), List.nil_append]
theorem from_none {xs : List (KV α)} {k : ByteArray} (hg : getL k xs = none) : fromL k xs = hi k xs := by
  have := getL_none hg
  unfold fromL hi
  refine List.filter_congr fun x hx => ?_
  rcases this x hx with e | e
  · simp [e, kl_asymm e]
  · simp [e, kl_asymm e]
/-- The place of a key. -/
def pl (k : ByteArray) (xs : List (KV α)) : Nat := (lo k xs).length
theorem pl_le (k : ByteArray) (xs : List (KV α)) : pl k xs ≤ xs.length := List.length_filter_le ..
theorem take_pl {xs : List (KV α)} (h : Srt xs) (k : ByteArray) : xs.take (pl k xs) = lo k xs := by
  have := lo_from (k := k) h
  conv => lhs; rw [this]
  rw [List.take_append_of_le_length (by rw [pl, ← this]; exact Nat.le_refl _), pl]
  rw [← this]
  exact List.take_length
theorem drop_pl {xs : List (KV α)} (h : Srt xs) (k : ByteArray) : xs.drop (pl k xs) = fromL k xs := by
  have := lo_from (k := k) h
  have e := List.take_append_drop (pl k xs) xs
  rw [take_pl h k] at e
  exact List.append_cancel_left (e.trans this)
theorem at_pl {xs : List (KV α)} (h : Srt xs) (k : ByteArray) (i : Nat) (hi : i < xs.length) : kl xs[i].1 k = decide (i < pl k xs) := by
  by_cases hp : i < pl k xs
  · rw [decide_eq_true hp]
    have : xs[i] ∈ lo k xs := by rw [← take_pl h k]; exact List.mem_take_iff_getElem.2 ⟨i, by omega, rfl⟩
    exact (List.mem_filter.1 this).2
  · rw [decide_eq_false hp]
    have : xs[i] ∈ fromL k xs := by
      rw [← drop_pl h k]
      exact List.mem_drop_iff_getElem.2 ⟨i - pl k xs, by omega, by congr 1; omega⟩
    have := (List.mem_filter.1 this).2
    simpa using this
theorem here_pl {xs : List (KV α)} (h : Srt xs) (k : ByteArray) (hi : pl k xs < xs.length) : (getL k xs).isSome = decide (xs[pl k xs].1 = k) ∧ (xs[pl k xs].1 = k → getL k xs = some xs[pl k xs].2) := by
  have hd := drop_pl h k
  rw [List.drop_eq_getElem_cons hi] at hd
  cases hg : getL k xs with
  | some v =>
    rw [from_some h hg] at hd
    have := (List.cons.inj hd).1
    rw [this]
    exact ⟨by simp, fun _ => rfl⟩
  | none =>
    have hne : xs[pl k xs].1 ≠ k := fun e => by
      have := getL_none hg xs[pl k xs] (List.getElem_mem hi)
      rw [e, kl_irr] at this
      rcases this with c | c <;> cases c
    exact ⟨by simp [hne], fun e => absurd e hne⟩
theorem none_pl {xs : List (KV α)} (h : Srt xs) (k : ByteArray) (hi : ¬ pl k xs < xs.length) : getL k xs = none := by
  have hd := drop_pl h k
  rw [List.drop_of_length_le (by omega)] at hd
  cases hg : getL k xs with
  | some v => rw [from_some h hg] at hd; cases hd
  | none => rfl
theorem put_some {xs : List (KV α)} {k : ByteArray} {u v : α} (h : Srt xs) (hg : getL k xs = some u) : putL k v xs = xs.set (pl k xs) (k, v) := by
  obtain ⟨A, B, rfl⟩ := getL_some hg
  rw [put_here h, pl, (at_here h).1, List.set_append_right _ _ (Nat.le_refl _), Nat.sub_self]
  rfl
theorem put_none {xs : List (KV α)} {k : ByteArray} {v : α} (h : Srt xs) (hg : getL k xs = none) : putL k v xs = xs.take (pl k xs) ++ (k, v) :: xs.drop (pl k xs) := by rw [take_pl h, drop_pl h, from_none hg, putL]
theorem del_some {xs : List (KV α)} {k : ByteArray} {u : α} (h : Srt xs) (hg : getL k xs = some u) : delL k xs = xs.take (pl k xs) ++ xs.drop (pl k xs + 1) := by
  rw [take_pl h, ← List.drop_drop, drop_pl h, from_some h hg, delL]; rfl

end Go.Proofs.YtffldmeocmemeaaDoor
