/- Merged: TbTree, StLkB, StPl. -/
import Derived.Test.YtdddfapelencoaaDoorLib
import Derived.Lib.Strings
set_option linter.unusedVariables false
namespace Go.Proofs.YtdddfapelencoaaDoor
open Go Go.RowKit

/-- Whether key a stands ahead of b. -/
abbrev kl (a b : ByteArray) : Bool := Op.bytesLess a.toList b.toList
theorem bless : ∀ a b : List UInt8, Op.bytesLess a b = true ↔ a < b := by
  intro a
  induction a with
  | nil => intro b; cases b <;> simp [Op.bytesLess]
  | cons x a ih =>
    intro b
    cases b with
    | nil => simp [Op.bytesLess]
    | cons y b =>
      have := ih b
      simp only [Op.bytesLess, List.cons_lt_cons_iff]
      rcases Decidable.em (x < y) with h | h <;> rcases Decidable.em (x = y) with k | k <;> simp [h, k, this]
theorem kl_iff (a b : ByteArray) : kl a b = true ↔ a.data.toList < b.data.toList := by rw [kl, bless, Lib.toList_data, Lib.toList_data]
theorem kl_not (a b : ByteArray) : kl a b = false ↔ ¬ a.data.toList < b.data.toList := by rw [← kl_iff]; simp
theorem kl_irr (a : ByteArray) : kl a a = false := (kl_not a a).2 (List.lt_irrefl _)
theorem kl_trans {a b c : ByteArray} (h : kl a b = true) (k : kl b c = true) : kl a c = true := (kl_iff a c).2 (List.lt_trans ((kl_iff a b).1 h) ((kl_iff b c).1 k))
theorem kl_asymm {a b : ByteArray} (h : kl a b = true) : kl b a = false := by
  cases k : kl b a
  · rfl
  · have := kl_trans h k; rw [kl_irr] at this; cases this
theorem kl_tri {a b : ByteArray} (h : kl a b = false) (k : kl b a = false) : a = b := by
  have := List.le_antisymm (List.not_lt.1 ((kl_not b a).1 k)) (List.not_lt.1 ((kl_not a b).1 h))
  exact ByteArray.ext (Array.ext' this)
theorem kl_ne {a b : ByteArray} (h : kl a b = true) : a ≠ b := by rintro rfl; rw [kl_irr] at h; cases h
theorem beq_ne {a b : ByteArray} (h : a ≠ b) : (a.toList == b.toList) = false := by
  rw [Lib.toList_data, Lib.toList_data, beq_eq_false_iff_ne]
  exact fun e => h (ByteArray.ext (Array.ext' e))

inductive Tr (α : Type) where
  | nil : Tr α
  | node (n p : Nat) (k : ByteArray) (v : α) (l r : Tr α) : Tr α

variable {α : Type}
abbrev KV (α : Type) := ByteArray × α
def Tr.ptr : Tr α → Option Addr
  | .nil => none
  | .node n _ _ _ _ _ => some ⟨n, 0, none⟩
def Tr.ht : Tr α → Nat
  | .nil => 0
  | .node _ _ _ _ l r => 1 + max l.ht r.ht
def Tr.els : Tr α → List (KV α)
  | .nil => []
  | .node _ _ k v l r => l.els ++ (k, v) :: r.els
def Tr.sz : Tr α → Nat
  | .nil => 0
  | .node _ _ _ _ l r => 1 + l.sz + r.sz
theorem Tr.ht_le : ∀ t : Tr α, t.ht ≤ t.els.length
  | .nil => Nat.le_refl _
  | .node _ _ _ _ l r => by
    have := l.ht_le
    have := r.ht_le
    simp only [Tr.ht, Tr.els, List.length_append, List.length_cons]
    omega
/-- Where the pair of a key lies, and what it is. -/
def Tr.look (k : ByteArray) : Tr α → Option (Nat × ByteArray × α)
  | .nil => none
  | .node _ p k0 v l r => if kl k k0 then l.look k else if kl k0 k then r.look k else some (p, k0, v)

abbrev Srt (xs : List (KV α)) : Prop := xs.Pairwise fun a b => kl a.1 b.1 = true
def lo (k : ByteArray) (xs : List (KV α)) : List (KV α) := xs.filter fun x => kl x.1 k
def hi (k : ByteArray) (xs : List (KV α)) : List (KV α) := xs.filter fun x => kl k x.1
/-- What the row has under a key. -/
def getL (k : ByteArray) (xs : List (KV α)) : Option α := (xs.find? fun x => !(kl x.1 k) && !(kl k x.1)).map (·.2)
def putL (k : ByteArray) (v : α) (xs : List (KV α)) : List (KV α) := lo k xs ++ (k, v) :: hi k xs
def delL (k : ByteArray) (xs : List (KV α)) : List (KV α) := lo k xs ++ hi k xs
def fromL (k : ByteArray) (xs : List (KV α)) : List (KV α) := xs.filter fun x => !(kl x.1 k)

theorem lo_app (k : ByteArray) (A B : List (KV α)) : lo k (A ++ B) = lo k A ++ lo k B := List.filter_append ..
theorem hi_app (k : ByteArray) (A B : List (KV α)) : hi k (A ++ B) = hi k A ++ hi k B := List.filter_append ..
theorem lo_pos {k : ByteArray} {x : KV α} (B : List (KV α)) (h : kl x.1 k = true) : lo k (x :: B) = x :: lo k B := List.filter_cons_of_pos (by simp [h])
theorem lo_neg {k : ByteArray} {x : KV α} (B : List (KV α)) (h : kl x.1 k = false) : lo k (x :: B) = lo k B := List.filter_cons_of_neg (by simp [h])
theorem hi_pos {k : ByteArray} {x : KV α} (B : List (KV α)) (h : kl k x.1 = true) : hi k (x :: B) = x :: hi k B := List.filter_cons_of_pos (by simp [h])
theorem hi_neg {k : ByteArray} {x : KV α} (B : List (KV α)) (h : kl k x.1 = false) : hi k (x :: B) = hi k B := List.filter_cons_of_neg (by simp [h])
theorem lo_all {k : ByteArray} {xs : List (KV α)} (h : ∀ x ∈ xs, kl x.1 k = true) : lo k xs = xs := List.filter_eq_self.2 h
theorem lo_none {k : ByteArray} {xs : List (KV α)} (h : ∀ x ∈ xs, kl x.1 k = false) : lo k xs = [] := List.filter_eq_nil_iff.2 fun x hx => by simp [h x hx]
theorem hi_all {k : ByteArray} {xs : List (KV α)} (h : ∀ x ∈ xs, kl k x.1 = true) : hi k xs = xs := List.filter_eq_self.2 h
theorem hi_none {k : ByteArray} {xs : List (KV α)} (h : ∀ x ∈ xs, kl k x.1 = false) : hi k xs = [] := List.filter_eq_nil_iff.2 fun x hx => by simp [h x hx]

/-- A sorted row parted at one of its pairs. -/
theorem Srt.parts {A B : List (KV α)} {k : ByteArray} {v : α} (h : Srt (A ++ (k, v) :: B)) : Srt A ∧ Srt B ∧ (∀ x ∈ A, kl x.1 k = true) ∧ (∀ x ∈ B, kl k x.1 = true) := by
  rw [Srt, List.pairwise_append] at h
  obtain ⟨h1, h2, h3⟩ := h
  rw [List.pairwise_cons] at h2
  exact ⟨h1, h2.2, fun x hx => h3 x hx (k, v) (by simp), fun x hx => h2.1 x hx⟩
theorem Srt.join {A B : List (KV α)} {k : ByteArray} {v : α} (h1 : Srt A) (h2 : Srt B) (h3 : ∀ x ∈ A, kl x.1 k = true) (h4 : ∀ x ∈ B, kl k x.1 = true) : Srt (A ++ (k, v) :: B) := by
  rw [Srt, List.pairwise_append]
  refine ⟨h1, List.pairwise_cons.2 ⟨fun x hx => h4 x hx, h2⟩, fun a ha b hb => ?_⟩
  rcases List.mem_cons.1 hb with rfl | hb
  · exact h3 a ha
  · exact kl_trans (h3 a ha) (h4 b hb)
/-- The key comes ahead of a pair of the row. -/
theorem at_left {A B : List (KV α)} {k k0 : ByteArray} {v0 : α} (h : Srt (A ++ (k0, v0) :: B)) (hk : kl k k0 = true) :
    lo k (A ++ (k0, v0) :: B) = lo k A ∧ hi k (A ++ (k0, v0) :: B) = hi k A ++ (k0, v0) :: B := by
  obtain ⟨_, _, _, h4⟩ := h.parts
  have hb : ∀ x ∈ B, kl k x.1 = true := fun x hx => kl_trans hk (h4 x hx)
  refine ⟨?_, ?_⟩
  · rw [lo_app, lo_neg _ (kl_asymm hk), lo_none (fun x hx => kl_asymm (hb x hx)), List.append_nil]
  · rw [hi_app, hi_pos _ hk, hi_all hb]
theorem at_right {A B : List (KV α)} {k k0 : ByteArray} {v0 : α} (h : Srt (A ++ (k0, v0) :: B)) (hk : kl k0 k = true) :
    lo k (A ++ (k0, v0) :: B) = A ++ (k0, v0) :: lo k B ∧ hi k (A ++ (k0, v0) :: B) = hi k B := by
  obtain ⟨_, _, h3, _⟩ := h.parts
  have ha : ∀ x ∈ A, kl x.1 k = true := fun x hx => kl_trans (h3 x hx) hk
  refine ⟨?_, ?_⟩
  · rw [lo_app, lo_pos _ hk, lo_all ha]
  · rw [hi_app, hi_neg _ (kl_asymm hk), hi_none (fun x hx => kl_asymm (ha x hx)), List.nil_append]
theorem at_here {A B : List (KV α)} {k : ByteArray} {v0 : α} (h : Srt (A ++ (k, v0) :: B)) : lo k (A ++ (k, v0) :: B) = A ∧ hi k (A ++ (k, v0) :: B) = B := by
  obtain ⟨_, _, h3, h4⟩ := h.parts
  refine ⟨?_, ?_⟩
  · rw [lo_app, lo_neg _ (kl_irr k), lo_all h3, lo_none (fun x hx => kl_asymm (h4 x hx)), List.append_nil]
  · rw [hi_app, hi_neg _ (kl_irr k), hi_none (fun x hx => kl_asymm (h3 x hx)), hi_all h4, List.nil_append]

theorem put_left {A B : List (KV α)} {k k0 : ByteArray} {v v0 : α} (h : Srt (A ++ (k0, v0) :: B)) (hk : kl k k0 = true) : putL k v (A ++ (k0, v0) :: B) = putL k v A ++ (k0, v0) :: B := by
  rw [putL, (at_left h hk).1, (at_left h hk).2, putL, List.append_assoc, List.cons_append]
theorem put_right {A B : List (KV α)} {k k0 : ByteArray} {v v0 : α} (h : Srt (A ++ (k0, v0) :: B)) (hk : kl k0 k = true) : putL k v (A ++ (k0, v0) :: B) = A ++ (k0, v0) :: putL k v B := by
  rw [putL, (at_right h hk).1, (at_right h hk).2, putL, List.append_assoc, List.cons_append]
theorem put_here {A B : List (KV α)} {k : ByteArray} {v v0 : α} (h : Srt (A ++ (k, v0) :: B)) : putL k v (A ++ (k, v0) :: B) = A ++ (k, v) :: B := by rw [putL, (at_here h).1, (at_here h).2]
theorem del_left {A B : List (KV α)} {k k0 : ByteArray} {v0 : α} (h : Srt (A ++ (k0, v0) :: B)) (hk : kl k k0 = true) : delL k (A ++ (k0, v0) :: B) = delL k A ++ (k0, v0) :: B := by
  rw [delL, (at_left h hk).1, (at_left h hk).2, delL, List.append_assoc]
theorem del_right {A B : List (KV α)} {k k0 : ByteArray} {v0 : α} (h : Srt (A ++ (k0, v0) :: B)) (hk : kl k0 k = true) : delL k (A ++ (k0, v0) :: B) = A ++ (k0, v0) :: delL k B := by
  rw [delL, (at_right h hk).1, (at_right h hk).2, delL, List.append_assoc, List.cons_append]
theorem del_here {A B : List (KV α)} {k : ByteArray} {v0 : α} (h : Srt (A ++ (k, v0) :: B)) : delL k (A ++ (k, v0) :: B) = A ++ B := by rw [delL, (at_here h).1, (at_here h).2]

theorem srt_put {xs : List (KV α)} (h : Srt xs) (k : ByteArray) (v : α) : Srt (putL k v xs) :=
  Srt.join (h.sublist List.filter_sublist) (h.sublist List.filter_sublist) (fun x hx => (List.mem_filter.1 hx).2) (fun x hx => (List.mem_filter.1 hx).2)
theorem srt_del {xs : List (KV α)} (h : Srt xs) (k : ByteArray) : Srt (delL k xs) := by
  rw [delL, Srt, List.pairwise_append]
  exact ⟨h.sublist List.filter_sublist, h.sublist List.filter_sublist, fun a ha b hb => kl_trans (List.mem_filter.1 ha).2 (List.mem_filter.1 hb).2⟩

theorem getL_nil (k : ByteArray) : getL k ([] : List (KV α)) = none := rfl
theorem getL_miss {k : ByteArray} {xs : List (KV α)} (h : ∀ x ∈ xs, kl x.1 k = true ∨ kl k x.1 = true) : getL k xs = none := by
  rw [getL, List.find?_eq_none.2 (fun x hx => by rcases h x hx with e | e <;> simp [e])]; rfl
theorem getL_split {A B : List (KV α)} {k : ByteArray} {v : α} (h : Srt (A ++ (k, v) :: B)) : getL k (A ++ (k, v) :: B) = some v := by
  obtain ⟨_, _, h3, _⟩ := h.parts
  rw [getL, List.find?_append, List.find?_eq_none.2 (fun x hx => by simp [h3 x hx])]
  simp [kl_irr]
theorem get_left {A B : List (KV α)} {k k0 : ByteArray} {v0 : α} (h : Srt (A ++ (k0, v0) :: B)) (hk : kl k k0 = true) : getL k (A ++ (k0, v0) :: B) = getL k A := by
  obtain ⟨_, _, _, h4⟩ := h.parts
  have e : List.find? (fun x : KV α => !(kl x.1 k) && !(kl k x.1)) ((k0, v0) :: B) = none := List.find?_eq_none.2 fun x hx => by
    rcases List.mem_cons.1 hx with rfl | hx
    · simp [hk]
    · simp [kl_trans hk (h4 x hx)]
  rw [getL, List.find?_append, e, Option.or_none]; rfl
theorem get_right {A B : List (KV α)} {k k0 : ByteArray} {v0 : α} (h : Srt (A ++ (k0, v0) :: B)) (hk : kl k0 k = true) : getL k (A ++ (k0, v0) :: B) = getL k B := by
  obtain ⟨_, _, h3, _⟩ := h.parts
  rw [getL, List.find?_append, List.find?_cons_of_neg (by simp [hk]), List.find?_eq_none.2 (fun x hx => by simp [kl_trans (h3 x hx) hk]), Option.none_or]; rfl
/-- A key that is there parts the row. -/
theorem getL_some {xs : List (KV α)} {k : ByteArray} {v : α} (h : getL k xs = some v) : ∃ A B, xs = A ++ (k, v) :: B := by
  rw [getL, Option.map_eq_some_iff] at h
  obtain ⟨⟨k0, v0⟩, h1, h2⟩ := h
  dsimp only at h2
  subst h2
  have h3 := List.find?_some h1
  simp only [Bool.and_eq_true, Bool.not_eq_true'] at h3
  obtain rfl := kl_tri h3.1 h3.2
  obtain ⟨A, B, e⟩ := List.append_of_mem (List.mem_of_find?_eq_some h1)
  exact ⟨A, B, e⟩
theorem getL_none {xs : List (KV α)} {k : ByteArray} (h : getL k xs = none) : ∀ x ∈ xs, kl x.1 k = true ∨ kl k x.1 = true := by
  rw [getL, Option.map_eq_none_iff, List.find?_eq_none] at h
  intro x hx
  have := h x hx
  cases h1 : kl x.1 k <;> cases h2 : kl k x.1 <;> simp [h1, h2] at this ⊢
theorem length_put {xs : List (KV α)} (hs : Srt xs) (k : ByteArray) (v : α) : (putL k v xs).length = if (getL k xs).isSome then xs.length else xs.length + 1 := by
  cases h : getL k xs with
  | some u => obtain ⟨A, B, rfl⟩ := getL_some h; rw [put_here hs]; simp
  | none =>
    have hn := getL_none h
    have : (lo k xs).length + (hi k xs).length = xs.length := by
      clear hs h
      induction xs with
      | nil => rfl
      | cons x xs ih =>
        have := ih (fun y hy => hn y (by simp [hy]))
        rcases hn x (by simp) with e | e
        · rw [lo_pos _ e, hi_neg _ (kl_asymm e)]; simp only [List.length_cons]; omega
        · rw [lo_neg _ (kl_asymm e), hi_pos _ e]; simp only [List.length_cons]; omega
    simp only [putL, List.length_append, List.length_cons, Option.isSome_none, Bool.false_eq_true, if_false]
    omega
theorem length_del {xs : List (KV α)} (hs : Srt xs) {k : ByteArray} {v : α} (h : getL k xs = some v) : (delL k xs).length + 1 = xs.length := by
  obtain ⟨A, B, rfl⟩ := getL_some h
  rw [del_here hs]
  simp
  omega

/-- What a tree's look finds is what its row has. -/
theorem look_get : ∀ (t : Tr α) (k : ByteArray), Srt t.els → (t.look k).map (fun x => x.2.2) = getL k t.els
  | .nil, k, _ => rfl
  | .node n p k0 v l r, k, h => by
    have hp := h.parts
    have hl := look_get l k hp.1
    have hr := look_get r k hp.2.1
    cases h1 : kl k k0 with
    | true => simp only [Tr.look, h1, if_true, Tr.els]; rw [hl, get_left h h1]
    | false =>
      cases h2 : kl k0 k with
      | true => simp only [Tr.look, h1, h2, if_true, Tr.els, Bool.false_eq_true, if_false]; rw [hr, get_right h h2]
      | false =>
        obtain rfl := kl_tri h1 h2
        simp only [Tr.look, h1, Tr.els, Bool.false_eq_true, if_false, Option.map_some]
        rw [getL_split h]
theorem look_key : ∀ (t : Tr α) (k : ByteArray) {p : Nat} {k0 : ByteArray} {v : α}, t.look k = some (p, k0, v) → k0 = k
  | .nil, k, p, k0, v, h => by cases h
  | .node n p k1 v l r, k, p', k0, v', h => by
    cases h1 : kl k k1 with
    | true => simp only [Tr.look, h1, if_true] at h; exact look_key l k h
    | false =>
      cases h2 : kl k1 k with
      | true => simp only [Tr.look, h1, h2, if_true, Bool.false_eq_true, if_false] at h; exact look_key r k h
      | false =>
        simp only [Tr.look, h1, h2, Bool.false_eq_true, if_false, Option.some.injEq, Prod.mk.injEq] at h
        obtain ⟨_, rfl, _⟩ := h
        exact (kl_tri h1 h2).symm

theorem from_left {A B : List (KV α)} {k k0 : ByteArray} {v0 : α} (h : Srt (A ++ (k0, v0) :: B)) (hk : kl k0 k = false) : fromL k (A ++ (k0, v0) :: B) = fromL k A ++ (k0, v0) :: B := by
  obtain ⟨_, _, _, h4⟩ := h.parts
  have hb : ∀ x ∈ B, (!(kl x.1 k)) = true := fun x hx => by
    cases e : kl x.1 k
    · rfl
    · rw [kl_trans (h4 x hx) e] at hk; cases hk
  rw [fromL, List.filter_append, List.filter_cons_of_pos (by simp [hk]), List.filter_eq_self.2 hb]; rfl
theorem from_right {A B : List (KV α)} {k k0 : ByteArray} {v0 : α} (h : Srt (A ++ (k0, v0) :: B)) (hk : kl k0 k = true) : fromL k (A ++ (k0, v0) :: B) = fromL k B := by
  obtain ⟨_, _, h3, _⟩ := h.parts
  rw [fromL, List.filter_append, List.filter_cons_of_neg (by simp [hk]), List.filter_eq_nil_iff.2 (fun x hx => by simp [kl_trans (h3 x hx) hk]), List.nil_append]; rfl
theorem from_all {xs : List (KV α)} : fromL ⟨#[]⟩ xs = xs := List.filter_eq_self.2 fun x _ => by
  have : kl x.1 ⟨#[]⟩ = false := (kl_not _ _).2 (by simp)
  simp [this]

/-- What the heap holds of a tree: a block for each node, one for each pair. -/
def IsT (TN TP : TypeId) (enc : α → List Value) (w : World) : Tr α → Prop
  | .nil => True
  | .node n p k v l r => w.heap[n]? = some (.cells #[.pointer (some ⟨p, 0, none⟩), .pointer l.ptr, .pointer r.ptr, .int .i64 ((1 + max l.ht r.ht : Nat) : Int)] TN (0, 0)) ∧
      w.heap[p]? = some (.cells (Value.string k :: enc v).toArray TP (0, 0)) ∧ IsT TN TP enc w l ∧ IsT TN TP enc w r
/-- All blocks of these two types are as they were. -/
structure Still (TN TP : TypeId) (w w' : World) : Prop where
  block : ∀ (n : Nat) (cs : Array Value) (T : TypeId), T = TN ∨ T = TP → w.heap[n]? = some (.cells cs T (0, 0)) → w'.heap[n]? = w.heap[n]?
theorem Still.refl (TN TP : TypeId) (w : World) : Still TN TP w w := ⟨fun _ _ _ _ _ => rfl⟩
theorem Still.trans {TN TP : TypeId} {a b c : World} (h : Still TN TP a b) (k : Still TN TP b c) : Still TN TP a c :=
  ⟨fun n cs T hT hn => (k.block n cs T hT ((h.block n cs T hT hn).trans hn)).trans (h.block n cs T hT hn)⟩
theorem Still.of_up {TN TP : TypeId} {w w' : World} (h : Up w w') : Still TN TP w w' := ⟨fun n cs T _ hn => h.block n (Array.getElem?_eq_some_iff.1 hn).1⟩
theorem IsT.still {TN TP : TypeId} {enc : α → List Value} {w w' : World} (s : Still TN TP w w') : ∀ {t : Tr α}, IsT TN TP enc w t → IsT TN TP enc w' t
  | .nil, _ => trivial
  | .node n p k v l r, ⟨h1, h2, h3, h4⟩ => ⟨(s.block _ _ _ (.inl rfl) h1).trans h1, (s.block _ _ _ (.inr rfl) h2).trans h2, IsT.still s h3, IsT.still s h4⟩
theorem IsT.up {TN TP : TypeId} {enc : α → List Value} {w w' : World} {t : Tr α} (h : IsT TN TP enc w t) (u : Up w w') : IsT TN TP enc w' t := h.still (Still.of_up u)
theorem IsT.look {TN TP : TypeId} {enc : α → List Value} {w : World} {k : ByteArray} : ∀ {t : Tr α}, IsT TN TP enc w t → ∀ {p : Nat} {k0 : ByteArray} {v : α}, t.look k = some (p, k0, v) → w.heap[p]? = some (.cells (Value.string k0 :: enc v).toArray TP (0, 0))
  | .nil, _, p, k0, v, h => by cases h
  | .node n p k1 v l r, ⟨_, h2, h3, h4⟩, p', k0, v', h => by
    cases e1 : kl k k1 with
    | true => simp only [Tr.look, e1, if_true] at h; exact IsT.look h3 h
    | false =>
      cases e2 : kl k1 k with
      | true => simp only [Tr.look, e1, e2, if_true, Bool.false_eq_true, if_false] at h; exact IsT.look h4 h
      | false =>
        simp only [Tr.look, e1, e2, Bool.false_eq_true, if_false, Option.some.injEq, Prod.mk.injEq] at h
        obtain ⟨rfl, rfl, rfl⟩ := h
        exact h2
/-- A node's cells. -/
theorem IsT.cells {TN TP : TypeId} {enc : α → List Value} {w : World} {n p : Nat} {k : ByteArray} {v : α} {l r : Tr α} (h : IsT TN TP enc w (.node n p k v l r)) :
    w.cell? ⟨n, 0, none⟩ = some (.pointer (some ⟨p, 0, none⟩)) ∧ w.cell? ⟨n, 1, none⟩ = some (.pointer l.ptr) ∧ w.cell? ⟨n, 2, none⟩ = some (.pointer r.ptr) ∧ w.cell? ⟨n, 3, none⟩ = some (.int .i64 ((1 + max l.ht r.ht : Nat) : Int)) ∧
      w.cell? ⟨p, 0, none⟩ = some (.string k) := by
  refine ⟨?_, ?_, ?_, ?_, ?_⟩
  · rw [cell_of_row _ _ _ _ _ _ h.1]; rfl
  · rw [cell_of_row _ _ _ _ _ _ h.1]; rfl
  · rw [cell_of_row _ _ _ _ _ _ h.1]; rfl
  · rw [cell_of_row _ _ _ _ _ _ h.1]; rfl
  · rw [cell_of_row _ _ _ _ _ _ h.2.1]; rfl
end Go.Proofs.YtdddfapelencoaaDoor

set_option linter.unusedVariables false
set_option linter.unusedSimpArgs false
namespace Go.Proofs.YtdddfapelencoaaDoor
open Go Go.RowKit

theorem lt_common : ∀ (c a b : List UInt8), (c ++ a < c ++ b) ↔ a < b
  | [], a, b => Iff.rfl
  | x :: c, a, b => by
    rw [List.cons_append, List.cons_append, List.cons_lt_cons_iff]
    have := lt_common c a b
    simp [this]
theorem kl_at {S T : ByteArray} {k : Nat} (h1 : k < S.data.toList.length) (h2 : k < T.data.toList.length) (he : S.data.toList.take k = T.data.toList.take k) (hne : S.data.toList[k] ≠ T.data.toList[k]) :
    kl S T = decide (S.data.toList[k] < T.data.toList[k]) := by
  rw [Bool.eq_iff_iff, kl_iff, decide_eq_true_iff]
  have e1 : S.data.toList = T.data.toList.take k ++ S.data.toList[k] :: S.data.toList.drop (k + 1) := by
    rw [← he, ← List.drop_eq_getElem_cons h1, List.take_append_drop]
  have e2 : T.data.toList = T.data.toList.take k ++ T.data.toList[k] :: T.data.toList.drop (k + 1) := by
    rw [← List.drop_eq_getElem_cons h2, List.take_append_drop]
  generalize S.data.toList[k] = x at *
  generalize T.data.toList[k] = y at *
  rw [e1, e2]
  simp only [List.take_append_drop, ← e2]
  have key := lt_common (T.data.toList.take k) (x :: S.data.toList.drop (k + 1)) (y :: T.data.toList.drop (k + 1))
  rw [← e2] at key
  refine key.trans ?_
  rw [List.cons_lt_cons_iff]
  simp [hne]
theorem kl_end {S T : ByteArray} {k : Nat} (he : S.data.toList.take k = T.data.toList.take k) (hk : k = min S.data.toList.length T.data.toList.length) :
    kl S T = decide (S.data.toList.length < T.data.toList.length) := by
  rw [Bool.eq_iff_iff, kl_iff, decide_eq_true_iff]
  rcases Nat.lt_or_ge S.data.toList.length T.data.toList.length with h | h
  · have e1 : k = S.data.toList.length := by omega
    rw [e1, List.take_of_length_le (Nat.le_refl _)] at he
    refine ⟨fun _ => h, fun _ => ?_⟩
    rw [← List.take_append_drop S.data.toList.length T.data.toList, ← he]
    have hd : T.data.toList.drop S.data.toList.length ≠ [] := by
      intro e
      have := congrArg List.length e
      rw [List.length_drop] at this
      simp at this
      simp at h
      omega
    have key := lt_common S.data.toList [] (T.data.toList.drop S.data.toList.length)
    rw [List.append_nil] at key
    refine key.2 ?_
    cases hx : T.data.toList.drop S.data.toList.length with
    | nil => exact absurd hx hd
    | cons y z => exact List.nil_lt_cons y z
  · have e1 : k = T.data.toList.length := by omega
    rw [e1, List.take_of_length_le (Nat.le_refl T.data.toList.length)] at he
    refine ⟨fun hlt => absurd hlt ?_, fun c => absurd c (by omega)⟩
    rw [← List.take_append_drop T.data.toList.length S.data.toList, he]
    have key := lt_common T.data.toList (S.data.toList.drop T.data.toList.length) []
    rw [List.append_nil] at key
    intro c
    have := key.1 c
    simp at this
end Go.Proofs.YtdddfapelencoaaDoor

set_option linter.unusedVariables false
set_option linter.unusedSimpArgs false
namespace Go.Proofs.YtdddfapelencoaaDoor
open Go Go.RowKit

variable {α : Type}
theorem from_pos {k : ByteArray} {x : KV α} (B : List (KV α)) (h : kl x.1 k = false) : fromL k (x :: B) = x :: fromL k B := List.filter_cons_of_pos (by simp [h])
theorem from_neg {k : ByteArray} {x : KV α} (B : List (KV α)) (h : kl x.1 k = true) : fromL k (x :: B) = fromL k B := List.filter_cons_of_neg (by simp [h])
/-- A sorted row is what comes ahead of a key and what doesn't. -/
theorem lo_from {k : ByteArray} : ∀ {xs : List (KV α)}, Srt xs → xs = lo k xs ++ fromL k xs
  | [], _ => rfl
  | x :: xs, h => by
    have h' := List.pairwise_cons.1 h
    cases e : kl x.1 k with
    | true => rw [lo_pos _ e, from_neg _ e, List.cons_append, ← lo_from h'.2]
    | false =>
      have hn : ∀ y ∈ xs, kl y.1 k = false := fun y hy => by
        cases e2 : kl y.1 k
        · rfl
        · rw [kl_trans (h'.1 y hy) e2] at e; cases e
      rw [lo_neg _ e, from_pos _ e, lo_none hn, List.nil_append, fromL, List.filter_eq_self.2 (fun y hy => by simp [hn y hy])]
theorem from_some {xs : List (KV α)} {k : ByteArray} {v : α} (h : Srt xs) (hg : getL k xs = some v) : fromL k xs = (k, v) :: hi k xs := by
  obtain ⟨A, B, rfl⟩ := getL_some hg
  obtain ⟨_, _, h3, h4⟩ := h.parts
  rw [from_left h (kl_irr k), (at_here h).2, fromL, List.filter_eq_nil_iff.2 (fun x hx => by simp [h3 x hx]), List.nil_append]
theorem from_none {xs : List (KV α)} {k : ByteArray} (hg : getL k xs = none) : fromL k xs = hi k xs := by
  have := getL_none hg
  unfold fromL hi
  refine List.filter_congr fun x hx => ?_
  rcases this x hx with e | e
  · simp [e, kl_asymm e]
  · simp [e, kl_asymm e]
/-- The place of a key. -/
def pl (k : ByteArray) (xs : List (KV α)) : Nat := (lo k xs).length
theorem pl_le (k : ByteArray) (xs : List (KV α)) : pl k xs ≤ xs.length := List.length_filter_le ..
theorem take_pl {xs : List (KV α)} (h : Srt xs) (k : ByteArray) : xs.take (pl k xs) = lo k xs := by
  have := lo_from (k := k) h
  conv => lhs; rw [this]
  rw [List.take_append_of_le_length (by rw [pl, ← this]; exact Nat.le_refl _), pl]
  rw [← this]
  exact List.take_length
theorem drop_pl {xs : List (KV α)} (h : Srt xs) (k : ByteArray) : xs.drop (pl k xs) = fromL k xs := by
  have := lo_from (k := k) h
  have e := List.take_append_drop (pl k xs) xs
  rw [take_pl h k] at e
  exact List.append_cancel_left (e.trans this)
theorem at_pl {xs : List (KV α)} (h : Srt xs) (k : ByteArray) (i : Nat) (hi : i < xs.length) : kl xs[i].1 k = decide (i < pl k xs) := by
  by_cases hp : i < pl k xs
  · rw [decide_eq_true hp]
    have : xs[i] ∈ lo k xs := by rw [← take_pl h k]; exact List.mem_take_iff_getElem.2 ⟨i, by omega, rfl⟩
    exact (List.mem_filter.1 this).2
  · rw [decide_eq_false hp]
    have : xs[i] ∈ fromL k xs := by
      rw [← drop_pl h k]
      exact List.mem_drop_iff_getElem.2 ⟨i - pl k xs, by omega, by congr 1; omega⟩
    have := (List.mem_filter.1 this).2
    simpa using this
theorem here_pl {xs : List (KV α)} (h : Srt xs) (k : ByteArray) (hi : pl k xs < xs.length) : (getL k xs).isSome = decide (xs[pl k xs].1 = k) ∧ (xs[pl k xs].1 = k → getL k xs = some xs[pl k xs].2) := by
  have hd := drop_pl h k
  rw [List.drop_eq_getElem_cons hi] at hd
  cases hg : getL k xs with
  | some v =>
    rw [from_some h hg] at hd
    have := (List.cons.inj hd).1
    rw [this]
    exact ⟨by simp, fun _ => rfl⟩
  | none =>
    have hne : xs[pl k xs].1 ≠ k := fun e => by
      have := getL_none hg xs[pl k xs] (List.getElem_mem hi)
      rw [e, kl_irr] at this
      rcases this with c | c <;> cases c
    exact ⟨by simp [hne], fun e => absurd e hne⟩
theorem none_pl {xs : List (KV α)} (h : Srt xs) (k : ByteArray) (hi : ¬ pl k xs < xs.length) : getL k xs = none := by
  have hd := drop_pl h k
  rw [List.drop_of_length_le (by omega)] at hd
  cases hg : getL k xs with
  | some v => rw [from_some h hg] at hd; cases hd
  | none => rfl
theorem put_some {xs : List (KV α)} {k : ByteArray} {u v : α} (h : Srt xs) (hg : getL k xs = some u) : putL k v xs = xs.set (pl k xs) (k, v) := by
  obtain ⟨A, B, rfl⟩ := getL_some hg
  rw [put_here h, pl, (at_here h).1, List.set_append_right _ _ (Nat.le_refl _), Nat.sub_self]
  rfl
theorem put_none {xs : List (KV α)} {k : ByteArray} {v : α} (h : Srt xs) (hg : getL k xs = none) : putL k v xs = xs.take (pl k xs) ++ (k, v) :: xs.drop (pl k xs) := by rw [take_pl h, drop_pl h, from_none hg, putL]
theorem del_some {xs : List (KV α)} {k : ByteArray} {u : α} (h : Srt xs) (hg : getL k xs = some u) : delL k xs = xs.take (pl k xs) ++ xs.drop (pl k xs + 1) := by
  rw [take_pl h, ← List.drop_drop, drop_pl h, from_some h hg, delL]; rfl

end Go.Proofs.YtdddfapelencoaaDoor
