/- disk: the contents of files in lists and numbers alone, without the program: bytes laid over bytes, sectors, the lists of sectors that can't be read. -/
import Derived.WalkKit
set_option linter.unusedVariables false
namespace Go.Proofs.YtffldmeocmemeaaDoor
open Go Go.RowKit

/-- How many sectors n bytes have. -/
def sec (n : Nat) : Nat := (n + 511) / 512

/-- d laid over l from s on; zeros where there was nothing. -/
def over (l : List UInt8) (s : Nat) (d : List UInt8) : List UInt8 :=
  (l ++ List.replicate (s + d.length - l.length) 0).take s ++ d ++ (l ++ List.replicate (s + d.length - l.length) 0).drop (s + d.length)

/-- Sector i of l. -/
def sect (l : List UInt8) (i : Nat) : List UInt8 := (l.drop (512 * i)).take 512

theorem over_length (l : List UInt8) (s : Nat) (d : List UInt8) : (over l s d).length = max l.length (s + d.length) := by
  simp only [over, List.length_append, List.length_take, List.length_drop, List.length_replicate]; omega

theorem getD_app (a b : List UInt8) (p : Nat) : (a ++ b).getD p 0 = if p < a.length then a.getD p 0 else b.getD (p - a.length) 0 := by
  simp only [List.getD_eq_getElem?_getD, List.getElem?_append]
  split <;> rfl

theorem getD_pad (l : List UInt8) (n p : Nat) : (l ++ List.replicate n 0).getD p 0 = l.getD p 0 := by
  rw [getD_app]
  split
  · rfl
  · rename_i h
    simp only [List.getD_eq_getElem?_getD, List.getElem?_replicate]
    have e : l[p]? = none := List.getElem?_eq_none (by omega)
    rw [e]
    split <;> rfl

theorem getD_take (l : List UInt8) (n p : Nat) : (l.take n).getD p 0 = if p < n then l.getD p 0 else 0 := by
  simp only [List.getD_eq_getElem?_getD, List.getElem?_take]
  split <;> rfl

theorem getD_drop (l : List UInt8) (n p : Nat) : (l.drop n).getD p 0 = l.getD (n + p) 0 := by
  simp only [List.getD_eq_getElem?_getD, List.getElem?_drop]

theorem getD_far (l : List UInt8) (p : Nat) (h : l.length ≤ p) : l.getD p 0 = 0 := by
  simp only [List.getD_eq_getElem?_getD, List.getElem?_eq_none h]; rfl

theorem getD_zeros (n p : Nat) : (List.replicate n (0 : UInt8)).getD p 0 = 0 := by
  simp only [List.getD_eq_getElem?_getD, List.getElem?_replicate]
  split <;> rfl

theorem over_get (l : List UInt8) (s : Nat) (d : List UInt8) (p : Nat) :
    (over l s d).getD p 0 = if s ≤ p ∧ p < s + d.length then d.getD (p - s) 0 else l.getD p 0 := by
  unfold over
  generalize hz : l ++ List.replicate (s + d.length - l.length) 0 = z
  have hl : s + d.length ≤ z.length := by rw [← hz]; simp only [List.length_append, List.length_replicate]; omega
  have hp : ∀ q, z.getD q 0 = l.getD q 0 := fun q => by rw [← hz, getD_pad]
  have ht : (z.take s).length = s := by rw [List.length_take]; omega
  rw [getD_app, getD_app, List.length_append, ht, getD_take, getD_drop]
  by_cases h1 : p < s
  · rw [if_pos (by omega), if_pos h1, if_pos h1, if_neg (by omega), hp]
  · by_cases h2 : p < s + d.length
    · rw [if_pos h2, if_neg h1, if_pos ⟨by omega, h2⟩]
    · rw [if_neg h2, if_neg (by omega), hp, show s + d.length + (p - (s + d.length)) = p by omega]

/-- Bytes are told by how many they are and what stands at each place. -/
theorem bytes_ext {l m : List UInt8} (hl : l.length = m.length) (h : ∀ p, p < l.length → l.getD p 0 = m.getD p 0) : l = m := by
  refine List.ext_getElem hl fun i h1 h2 => ?_
  have e := h i h1
  simpa only [List.getD_eq_getElem?_getD, List.getElem?_eq_getElem h1, List.getElem?_eq_getElem h2, Option.getD_some] using e

theorem over_end (l d : List UInt8) : over l l.length d = l ++ d := by
  refine bytes_ext (by rw [over_length, List.length_append]; omega) fun p _ => ?_
  rw [over_get, getD_app]
  by_cases h : p < l.length
  · rw [if_neg (by omega), if_pos h]
  · rw [if_neg h]
    by_cases h2 : p < l.length + d.length
    · rw [if_pos ⟨by omega, h2⟩]
    · rw [if_neg (by omega), getD_far _ _ (by omega), getD_far _ _ (by omega)]

theorem sect_length (l : List UInt8) (i : Nat) : (sect l i).length = min 512 (l.length - 512 * i) := by
  simp only [sect, List.length_take, List.length_drop]

theorem sect_get (l : List UInt8) (i p : Nat) : (sect l i).getD p 0 = if p < 512 then l.getD (512 * i + p) 0 else 0 := by
  unfold sect
  rw [getD_take, getD_drop]

/-- How many of the numbers are below x. -/
def cnt (bad : List Nat) (x : Nat) : Nat := bad.countP fun i => decide (i < x)

theorem cnt_le (bad : List Nat) (x : Nat) : cnt bad x ≤ bad.length := List.countP_le_length
theorem cnt_mono (bad : List Nat) {x y : Nat} (h : x ≤ y) : cnt bad x ≤ cnt bad y :=
  List.countP_mono_left fun i _ hi => by simp only [decide_eq_true_eq] at *; omega

theorem take_cnt : ∀ (bad : List Nat) (x : Nat), bad.Pairwise (· < ·) → bad.take (cnt bad x) = bad.filter fun i => decide (i < x)
  | [], _, _ => rfl
  | a :: bad, x, h => by
    have hp := List.pairwise_cons.1 h
    have ih := take_cnt bad x hp.2
    unfold cnt at *
    by_cases ha : a < x
    · rw [List.countP_cons_of_pos (by simpa using ha), List.take_succ_cons, List.filter_cons_of_pos (by simpa using ha), ih]
    · have hn : ∀ b ∈ bad, ¬ b < x := fun b hb => by have := hp.1 b hb; omega
      have h0 : bad.countP (fun i => decide (i < x)) = 0 := List.countP_eq_zero.2 fun b hb => by simpa using hn b hb
      rw [List.countP_cons_of_neg (by simpa using ha), h0, List.take_zero, List.filter_cons_of_neg (by simpa using ha)]
      exact (List.filter_eq_nil_iff.2 fun b hb => by simpa using hn b hb).symm

theorem drop_cnt : ∀ (bad : List Nat) (x : Nat), bad.Pairwise (· < ·) → bad.drop (cnt bad x) = bad.filter fun i => decide (x ≤ i)
  | [], _, _ => rfl
  | a :: bad, x, h => by
    have hp := List.pairwise_cons.1 h
    have ih := drop_cnt bad x hp.2
    unfold cnt at *
    by_cases ha : a < x
    · rw [List.countP_cons_of_pos (by simpa using ha), List.drop_succ_cons, List.filter_cons_of_neg (by simpa using ha), ih]
    · have hn : ∀ b ∈ bad, ¬ b < x := fun b hb => by have := hp.1 b hb; omega
      have h0 : bad.countP (fun i => decide (i < x)) = 0 := List.countP_eq_zero.2 fun b hb => by simpa using hn b hb
      rw [List.countP_cons_of_neg (by simpa using ha), h0, List.drop_zero]
      refine (List.filter_eq_self.2 fun b hb => ?_).symm
      rcases List.mem_cons.1 hb with rfl | hb
      · simpa using ha
      · have := hp.1 b hb; simp only [decide_eq_true_eq]; omega

/-- The numbers with those from a up to b left out. -/
def cutOut (bad : List Nat) (a b : Nat) : List Nat := bad.take (cnt bad a) ++ bad.drop (cnt bad b)
/-- i put at its place. -/
def putIn (bad : List Nat) (i : Nat) : List Nat := bad.take (cnt bad i) ++ i :: bad.drop (cnt bad i)

theorem rise_cutOut {bad : List Nat} (h : bad.Pairwise (· < ·)) {a b : Nat} (hab : a ≤ b) : (cutOut bad a b).Pairwise (· < ·) := by
  unfold cutOut
  rw [take_cnt _ _ h, drop_cnt _ _ h]
  refine List.pairwise_append.2 ⟨h.filter _, h.filter _, fun x hx y hy => ?_⟩
  have h1 := (List.mem_filter.1 hx).2
  have h2 := (List.mem_filter.1 hy).2
  simp only [decide_eq_true_eq] at h1 h2
  omega

theorem mem_cutOut {bad : List Nat} (h : bad.Pairwise (· < ·)) (a b i : Nat) : i ∈ cutOut bad a b ↔ i ∈ bad ∧ (i < a ∨ b ≤ i) := by
  unfold cutOut
  rw [take_cnt _ _ h, drop_cnt _ _ h, List.mem_append, List.mem_filter, List.mem_filter]
  simp only [decide_eq_true_eq]
  constructor
  · rintro (⟨x, y⟩ | ⟨x, y⟩)
    · exact ⟨x, .inl y⟩
    · exact ⟨x, .inr y⟩
  · rintro ⟨x, y | y⟩
    · exact .inl ⟨x, y⟩
    · exact .inr ⟨x, y⟩

theorem rise_putIn {bad : List Nat} (h : bad.Pairwise (· < ·)) {i : Nat} (hi : i ∉ bad) : (putIn bad i).Pairwise (· < ·) := by
  unfold putIn
  rw [take_cnt _ _ h, drop_cnt _ _ h]
  refine List.pairwise_append.2 ⟨h.filter _, List.pairwise_cons.2 ⟨fun y hy => ?_, h.filter _⟩, fun x hx y hy => ?_⟩
  · obtain ⟨h1, h2⟩ := List.mem_filter.1 hy
    simp only [decide_eq_true_eq] at h2
    rcases Nat.lt_or_ge i y with h3 | h3
    · exact h3
    · exact absurd (show i = y by omega) (fun e => hi (by rw [e]; exact h1))
  · have h1 := (List.mem_filter.1 hx).2
    simp only [decide_eq_true_eq] at h1
    rcases List.mem_cons.1 hy with rfl | hy
    · exact h1
    · have h2 := (List.mem_filter.1 hy).2
      simp only [decide_eq_true_eq] at h2
      omega

theorem mem_putIn {bad : List Nat} (h : bad.Pairwise (· < ·)) (i j : Nat) : j ∈ putIn bad i ↔ j = i ∨ j ∈ bad := by
  unfold putIn
  rw [take_cnt _ _ h, drop_cnt _ _ h, List.mem_append, List.mem_cons, List.mem_filter, List.mem_filter]
  simp only [decide_eq_true_eq]
  constructor
  · rintro (⟨x, _⟩ | x | ⟨x, _⟩)
    · exact .inr x
    · exact .inl x
    · exact .inr x
  · rintro (x | x)
    · exact .inr (.inl x)
    · rcases Nat.lt_or_ge j i with y | y
      · exact .inl ⟨x, y⟩
      · exact .inr (.inr ⟨x, y⟩)

/-- Rising lists are told by what they hold. -/
theorem rise_ext : ∀ {a b : List Nat}, a.Pairwise (· < ·) → b.Pairwise (· < ·) → (∀ i, i ∈ a ↔ i ∈ b) → a = b
  | [], [], _, _, _ => rfl
  | [], y :: b, _, _, h => by have := (h y).2 (List.mem_cons_self ..); simp at this
  | x :: a, [], _, _, h => by have := (h x).1 (List.mem_cons_self ..); simp at this
  | x :: a, y :: b, ha, hb, h => by
    have ha' := List.pairwise_cons.1 ha
    have hb' := List.pairwise_cons.1 hb
    have e : x = y := by
      have h1 := (h x).1 (List.mem_cons_self ..)
      have h2 := (h y).2 (List.mem_cons_self ..)
      rcases List.mem_cons.1 h1 with e | h1
      · exact e
      · rcases List.mem_cons.1 h2 with e | h2
        · exact e.symm
        · have := hb'.1 x h1; have := ha'.1 y h2; omega
    subst e
    refine congrArg _ (rise_ext ha'.2 hb'.2 fun i => ?_)
    constructor
    · intro hi
      rcases List.mem_cons.1 ((h i).1 (List.mem_cons_of_mem _ hi)) with e | h2
      · have := ha'.1 i hi; omega
      · exact h2
    · intro hi
      rcases List.mem_cons.1 ((h i).2 (List.mem_cons_of_mem _ hi)) with e | h2
      · have := hb'.1 i hi; omega
      · exact h2

/-- Bytes, with zeros in the sectors that can't be read, and the numbers of these, rising. -/
structure Con where
  data : List UInt8
  bad : List Nat

theorem Con.ext' {a b : Con} (h : a.data = b.data) (k : a.bad = b.bad) : a = b := by cases a; cases b; cases h; cases k; rfl

/-- In form. -/
structure Con.Ok (c : Con) : Prop where
  rise : c.bad.Pairwise (· < ·)
  there : ∀ i ∈ c.bad, i < sec c.data.length
  zero : ∀ i ∈ c.bad, ∀ p, 512 * i ≤ p → p < 512 * i + 512 → c.data.getD p 0 = 0

/-- d laid over the bytes from s on; its sectors can be read. -/
def Con.put (c : Con) (s : Nat) (d : List UInt8) : Con :=
  if d = [] then c else ⟨over c.data s d, cutOut c.bad (s / 512) (sec (s + d.length))⟩
/-- Sector i, of n bytes, can't be read. -/
def Con.spoil (c : Con) (i n : Nat) : Con := ⟨(c.put (512 * i) (List.replicate n 0)).data, putIn (c.put (512 * i) (List.replicate n 0)).bad i⟩
/-- The first n bytes, whole sectors. -/
def Con.cut (c : Con) (n : Nat) : Con := ⟨c.data.take (min n c.data.length), c.bad.take (cnt c.bad (n / 512))⟩

theorem sec_lt {i n : Nat} : i < sec n ↔ 512 * i < n := by unfold sec; omega
theorem sec_le {i n : Nat} : sec n ≤ i ↔ n ≤ 512 * i := by unfold sec; omega
theorem sec_mul (i : Nat) : sec (512 * i) = i := by unfold sec; omega

theorem Con.Ok.put {c : Con} (h : c.Ok) (s : Nat) (d : List UInt8) : (c.put s d).Ok := by
  unfold Con.put
  split
  · exact h
  · rename_i hd
    have hd' : 0 < d.length := List.length_pos_iff.2 hd
    have hab : s / 512 ≤ sec (s + d.length) := by unfold sec; omega
    refine ⟨rise_cutOut h.rise hab, fun i hi => ?_, fun i hi p h1 h2 => ?_⟩
    · have hm := (mem_cutOut h.rise _ _ i).1 hi
      have := sec_lt.1 (h.there i hm.1)
      show i < sec (over c.data s d).length
      rw [sec_lt, over_length]
      omega
    · have hm := (mem_cutOut h.rise _ _ i).1 hi
      have hz := h.zero i hm.1 p h1 h2
      show (over c.data s d).getD p 0 = 0
      rw [over_get]
      rcases hm.2 with h3 | h3
      · rw [if_neg (by omega)]; exact hz
      · have := sec_le.1 h3
        rw [if_neg (by omega)]; exact hz

theorem Con.Ok.cut {c : Con} (h : c.Ok) (n : Nat) (hn : n % 512 = 0) : (c.cut n).Ok := by
  unfold Con.cut
  refine ⟨?_, fun i hi => ?_, fun i hi p h1 h2 => ?_⟩
  · show (c.bad.take _).Pairwise _
    rw [take_cnt _ _ h.rise]; exact h.rise.filter _
  · change i ∈ c.bad.take _ at hi
    rw [take_cnt _ _ h.rise] at hi
    obtain ⟨h1, h2⟩ := List.mem_filter.1 hi
    simp only [decide_eq_true_eq] at h2
    have := sec_lt.1 (h.there i h1)
    show i < sec (c.data.take _).length
    rw [sec_lt, List.length_take]
    omega
  · change i ∈ c.bad.take _ at hi
    rw [take_cnt _ _ h.rise] at hi
    obtain ⟨h3, h4⟩ := List.mem_filter.1 hi
    show (c.data.take _).getD p 0 = 0
    rw [getD_take]
    split
    · exact h.zero i h3 p h1 h2
    · rfl

theorem Con.spoil_facts {c : Con} (h : c.Ok) (i n : Nat) (hn : 0 < n) (hn2 : n ≤ 512) :
    (c.spoil i n).data = over c.data (512 * i) (List.replicate n 0) ∧ (c.spoil i n).bad.Pairwise (· < ·) ∧ (∀ j, j ∈ (c.spoil i n).bad ↔ j = i ∨ j ∈ c.bad) := by
  have hd : List.replicate n (0 : UInt8) ≠ [] := by intro e; have := congrArg List.length e; simp at this; omega
  have e1 : c.put (512 * i) (List.replicate n 0) = ⟨over c.data (512 * i) (List.replicate n 0), cutOut c.bad (512 * i / 512) (sec (512 * i + (List.replicate n (0 : UInt8)).length))⟩ := if_neg hd
  have e2 : 512 * i / 512 = i := by omega
  have e3 : sec (512 * i + (List.replicate n (0 : UInt8)).length) = i + 1 := by rw [List.length_replicate]; unfold sec; omega
  unfold Con.spoil
  rw [e1, e2, e3]
  have hr := rise_cutOut h.rise (show i ≤ i + 1 by omega)
  have hni : i ∉ cutOut c.bad i (i + 1) := fun hi => by have := ((mem_cutOut h.rise _ _ _).1 hi).2; omega
  refine ⟨rfl, rise_putIn hr hni, fun j => ?_⟩
  show j ∈ putIn (cutOut c.bad i (i + 1)) i ↔ _
  rw [mem_putIn hr, mem_cutOut h.rise]
  constructor
  · rintro (h1 | ⟨h1, _⟩)
    · exact .inl h1
    · exact .inr h1
  · rintro (h1 | h1)
    · exact .inl h1
    · by_cases e : j = i
      · exact .inl e
      · exact .inr ⟨h1, by omega⟩

theorem Con.Ok.spoil {c : Con} (h : c.Ok) (i n : Nat) (hn : 0 < n) (hn2 : n ≤ 512) (hc : c.data.length ≤ 512 * i + n ∨ 512 * i + 512 ≤ 512 * i + n) : (c.spoil i n).Ok := by
  obtain ⟨h1, h2, h3⟩ := Con.spoil_facts h i n hn hn2
  refine ⟨h2, fun j hj => ?_, fun j hj p hp1 hp2 => ?_⟩
  · rw [h1, sec_lt, over_length, List.length_replicate]
    rcases (h3 j).1 hj with rfl | hj
    · omega
    · have := sec_lt.1 (h.there j hj); omega
  · rw [h1, over_get, List.length_replicate]
    split
    · exact getD_zeros _ _
    · rename_i hh
      rcases (h3 j).1 hj with rfl | hj
      · exact getD_far _ _ (by omega)
      · exact h.zero j hj p hp1 hp2

end Go.Proofs.YtffldmeocmemeaaDoor
