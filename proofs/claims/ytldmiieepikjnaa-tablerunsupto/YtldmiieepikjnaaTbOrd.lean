/- table: rows by what Get says of them; two of the same answers are the same. Own work. -/
import Derived.Test.YtldmiieepikjnaaTbHalf
set_option linter.unusedVariables false
set_option linter.unusedSimpArgs false
namespace Go.Proofs.Ytldmiieepikjnaa
open Go Go.RowKit
variable {α : Type}

theorem find_lo (j k : ByteArray) (h : kl j k = true) : ∀ xs : List (KV α), (lo k xs).find? (fun x => !(kl x.1 j) && !(kl j x.1)) = xs.find? (fun x => !(kl x.1 j) && !(kl j x.1))
  | [] => rfl
  | x :: xs => by
    by_cases hx : kl x.1 k = true
    · rw [lo_pos xs hx, List.find?_cons, List.find?_cons, find_lo j k h xs]
    · have hx' : kl x.1 k = false := by simpa using hx
      have hj : kl j x.1 = true := by
        by_cases e : kl j x.1 = true
        · exact e
        · have e' : kl j x.1 = false := by simpa using e
          by_cases e2 : kl x.1 j = true
          · rw [kl_trans e2 h] at hx'; cases hx'
          · rw [kl_tri e' (by simpa using e2)] at h; rw [h] at hx'; cases hx'
      rw [lo_neg xs hx', List.find?_cons, find_lo j k h xs]
      simp [hj]
theorem find_hi (j k : ByteArray) (h : kl k j = true) : ∀ xs : List (KV α), (hi k xs).find? (fun x => !(kl x.1 j) && !(kl j x.1)) = xs.find? (fun x => !(kl x.1 j) && !(kl j x.1))
  | [] => rfl
  | x :: xs => by
    by_cases hx : kl k x.1 = true
    · rw [hi_pos xs hx, List.find?_cons, List.find?_cons, find_hi j k h xs]
    · have hx' : kl k x.1 = false := by simpa using hx
      have hj : kl x.1 j = true := by
        by_cases e : kl x.1 j = true
        · exact e
        · have e' : kl x.1 j = false := by simpa using e
          by_cases e2 : kl j x.1 = true
          · rw [kl_trans h e2] at hx'; cases hx'
          · rw [kl_tri (by simpa using e2) e'] at h; rw [h] at hx'; cases hx'
      rw [hi_neg xs hx', List.find?_cons, find_hi j k h xs]
      simp [hj]
theorem lo_find_none (j k : ByteArray) (h : kl j k = false) (xs : List (KV α)) : (lo k xs).find? (fun x => !(kl x.1 j) && !(kl j x.1)) = none := by
  refine List.find?_eq_none.2 fun x hx => ?_
  have h1 : kl x.1 k = true := by simpa using (List.mem_filter.1 hx).2
  have h2 : kl x.1 j = true := by
    by_cases e : kl x.1 j = true
    · exact e
    · by_cases e2 : kl j x.1 = true
      · rw [kl_trans e2 h1] at h; cases h
      · have := kl_tri (by simpa using e) (by simpa using e2); rw [this] at h1; rw [h1] at h; cases h
  simp [h2]
theorem hi_find_none (j k : ByteArray) (h : kl k j = false) (xs : List (KV α)) : (hi k xs).find? (fun x => !(kl x.1 j) && !(kl j x.1)) = none := by
  refine List.find?_eq_none.2 fun x hx => ?_
  have h1 : kl k x.1 = true := by simpa using (List.mem_filter.1 hx).2
  have h2 : kl j x.1 = true := by
    by_cases e : kl j x.1 = true
    · exact e
    · by_cases e2 : kl x.1 j = true
      · rw [kl_trans h1 e2] at h; cases h
      · have := kl_tri (by simpa using e2) (by simpa using e); rw [this] at h1; rw [h1] at h; cases h
  simp [h2]
theorem get_put (j k : ByteArray) (v : α) (xs : List (KV α)) : getL j (putL k v xs) = if j = k then some v else getL j xs := by
  unfold getL putL
  rw [List.find?_append]
  by_cases e : j = k
  · subst e
    rw [if_pos rfl, lo_find_none j j (kl_irr j), List.find?_cons]
    simp [kl_irr]
  · rw [if_neg e]
    by_cases h : kl j k = true
    · rw [find_lo j k h, List.find?_cons, hi_find_none j k (kl_asymm h)]
      simp [h]
    · have h' : kl j k = false := by simpa using h
      have h2 : kl k j = true := by
        by_cases e2 : kl k j = true
        · exact e2
        · exact absurd (kl_tri h' (by simpa using e2)) e
      rw [lo_find_none j k h', List.find?_cons, find_hi j k h2]
      simp [h2]
theorem get_del (j k : ByteArray) (xs : List (KV α)) : getL j (delL k xs) = if j = k then none else getL j xs := by
  unfold getL delL
  rw [List.find?_append]
  by_cases e : j = k
  · subst e
    rw [if_pos rfl, lo_find_none j j (kl_irr j), hi_find_none j j (kl_irr j)]
    rfl
  · rw [if_neg e]
    by_cases h : kl j k = true
    · rw [find_lo j k h, hi_find_none j k (kl_asymm h)]
      simp
    · have h' : kl j k = false := by simpa using h
      have h2 : kl k j = true := by
        by_cases e2 : kl k j = true
        · exact e2
        · exact absurd (kl_tri h' (by simpa using e2)) e
      rw [lo_find_none j k h', find_hi j k h2]
      simp
theorem get_delT (j k : ByteArray) (xs : List (KV α)) : getL j (delT k xs) = if j = k then none else getL j xs := by
  unfold delT
  split
  · exact get_del j k xs
  · rename_i h
    by_cases e : j = k
    · subst e
      rw [if_pos rfl]
      simpa using h
    · rw [if_neg e]
theorem get_cons (x : KV α) (xs : List (KV α)) (j : ByteArray) (h : kl x.1 j = true ∨ kl j x.1 = true) : getL j (x :: xs) = getL j xs := by
  unfold getL
  rw [List.find?_cons]
  rcases h with h | h <;> simp [h]
theorem get_head (x : KV α) (xs : List (KV α)) : getL x.1 (x :: xs) = some x.2 := by
  unfold getL
  rw [List.find?_cons]
  simp [kl_irr]
theorem get_tail_none {x : KV α} {xs : List (KV α)} (h : Srt (x :: xs)) (j : ByteArray) (hj : kl j x.1 = true ∨ j = x.1) : getL j xs = none := by
  refine getL_miss fun y hy => .inr ?_
  have h1 := (List.pairwise_cons.1 h).1 y hy
  rcases hj with hj | rfl
  · exact kl_trans hj h1
  · exact h1
/-- Sorted rows that answer the same are the same. -/
theorem srt_ext : ∀ {xs ys : List (KV α)}, Srt xs → Srt ys → (∀ k, getL k xs = getL k ys) → xs = ys
  | [], [], _, _, _ => rfl
  | [], y :: ys, _, _, h => by have := h y.1; rw [get_head, getL_nil] at this; cases this
  | x :: xs, [], _, _, h => by have := h x.1; rw [get_head, getL_nil] at this; cases this
  | x :: xs, y :: ys, hx, hy, h => by
    have key : x.1 = y.1 := by
      by_cases h1 : kl x.1 y.1 = true
      · have := h x.1
        rw [get_head, get_cons y ys x.1 (.inr h1), get_tail_none hy x.1 (.inl h1)] at this
        cases this
      · by_cases h2 : kl y.1 x.1 = true
        · have := h y.1
          rw [get_head, get_cons x xs y.1 (.inr h2), get_tail_none hx y.1 (.inl h2)] at this
          cases this
        · exact kl_tri (by simpa using h1) (by simpa using h2)
    have hv : x.2 = y.2 := by
      have := h x.1
      rw [get_head] at this
      rw [key, get_head] at this
      simpa using this
    have e : x = y := Prod.ext key hv
    subst e
    congr 1
    refine srt_ext (List.pairwise_cons.1 hx).2 (List.pairwise_cons.1 hy).2 fun k => ?_
    by_cases e : k = x.1
    · subst e
      rw [get_tail_none hx _ (.inr rfl), get_tail_none hy _ (.inr rfl)]
    · have h3 : kl x.1 k = true ∨ kl k x.1 = true := by
        by_cases h1 : kl x.1 k = true
        · exact .inl h1
        · by_cases h2 : kl k x.1 = true
          · exact .inr h2
          · exact absurd (kl_tri (by simpa using h2) (by simpa using h1)) e
      have := h k
      rwa [get_cons x xs k h3, get_cons x ys k h3] at this
theorem srt_delT {xs : List (KV α)} (h : Srt xs) (k : ByteArray) : Srt (delT k xs) := by
  unfold delT; split
  · exact srt_del h k
  · exact h
theorem srt_putT {lim : Int} {xs : List (KV α)} (h : Srt xs) (k : ByteArray) (v : α) : Srt (putT lim k v xs) := by
  unfold putT; split
  · exact srt_put h k v
  · exact h
theorem get_putT (lim : Int) (j k : ByteArray) (v : α) (xs : List (KV α)) (h : took lim k xs = true) : getL j (putT lim k v xs) = if j = k then some v else getL j xs := by
  unfold putT; rw [if_pos h]; exact get_put j k v xs
theorem took_room {lim : Int} {k : ByteArray} {xs : List (KV α)} (h : (xs.length : Int) < lim) : took lim k xs = true := by simp [took, h]
theorem took_has {lim : Int} {k : ByteArray} {xs : List (KV α)} (h : (getL k xs).isSome = true) : took lim k xs = true := by simp [took, h]

/-- The count, one place told apart. -/
abbrev cntF (from_ : ByteArray) (xs : List (KV α)) (i : Nat) : Prop := xs.length ≤ i + (if (getL from_ xs).isSome then 1 else 0)
theorem len_put {lim : Int} {k : ByteArray} {v : α} {xs : List (KV α)} (h : Srt xs) (ht : took lim k xs = true) : (putT lim k v xs).length = if (getL k xs).isSome then xs.length else xs.length + 1 := by
  unfold putT; rw [if_pos ht]; exact length_put h k v
theorem len_del {k : ByteArray} {xs : List (KV α)} (h : Srt xs) : (delT k xs).length + (if (getL k xs).isSome then 1 else 0) = xs.length := by
  unfold delT
  split
  · rename_i hs
    obtain ⟨v, hv⟩ := Option.isSome_iff_exists.1 hs
    exact length_del h hv
  · simp
theorem cntF_put_from {lim : Int} {f : ByteArray} {v : α} {xs : List (KV α)} {i : Nat} (h : Srt xs) (hc : cntF f xs i) (ht : took lim f xs = true) : cntF f (putT lim f v xs) i := by
  unfold cntF at *
  rw [get_putT lim f f v xs ht, if_pos rfl, len_put h ht]
  simp
  split at hc <;> rename_i e <;> simp_all
theorem cnt_del_from {f : ByteArray} {xs : List (KV α)} {i : Nat} (h : Srt xs) (hc : cntF f xs i) : cntF f (delT f xs) i := by
  unfold cntF at *
  have := len_del (k := f) h
  omega
theorem cnt_put {lim : Int} {f k : ByteArray} {v : α} {xs : List (KV α)} {i : Nat} (h : Srt xs) (hc : cntF f xs i) (ht : took lim k xs = true) : cntF f (putT lim k v xs) (i + 1) := by
  by_cases e : f = k
  · subst e
    have := cntF_put_from (v := v) h hc ht
    unfold cntF at *
    omega
  · unfold cntF at *
    rw [get_putT lim f k v xs ht, if_neg e, len_put h ht]
    split <;> omega
end Go.Proofs.Ytldmiieepikjnaa
